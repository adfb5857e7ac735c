/-
  NARROWER THAN 'FOR EVERY INPUT', by the rows' own cells (each row's printed sentence says how): Reads: laid · Merges: laid · Lattice: laid · Sound: laid · Lasts: laid · Level: laid.
  DERIVED. THE GIVEN ROWS OF THIS SEAT. 6 by the template 'for every input the law returns true; each argument reads behind the call as it read before'; 0 by the template 'total and deterministic' (their statements: YtamcclcbmenjdaaGreatDoorTotals.lean).
  GIVEN WITH THE SEED: the statements are not yours to turn. If you find one false, say at which input.
  Laid BY PROGRAM, IN A SANDBOX (cutbox-rows.mjs): the forced cells as the released guide's own fill.sh prints them over the translation c21bab7c1080ae98… (all of the seat's roots in one cut). By AI agents, Wed Nov 11 2026. No macro, syntax, notation, axiom, sorry.
-/
import Derived.Test.YtamcclcbmenjdaaGreatDoorChecked
import GoSem.Claim
import GoSem.ClaimJoined
import GoSem.ClaimMapViews
import Derived.JoinedTies
import Derived.KernelRfl
namespace Go.Proofs.YtamcclcbmenjdaaGreatDoor
/- THE CELL 'sum', in the pinned program and in every row, IS THE sha256 OF THE DUMP (.gsa) THAT YtamcclcbmenjdaaGreatDoorProg.lean LOADS. Nothing in Lean hashes anything: it is a label: what it is worth is what the hold of that sum in a sandbox is worth. -/
noncomputable def Tryz.pinned : Pinned := { name := "ytamcclcbmenjdaagreatdoor", sum := "c21bab7c1080ae988a3532b0a14952d4f2815b1d8c80877e8dba66b979bf8497", checked := Tryz.checked }
namespace Rows
def none {H : Type} : Left H := { results := [], args := [] }

/- WHAT THE LISTED PACKAGE-LEVEL VARIABLES READ AS WHEN THE CALL BEGINS. Each datum BY PROGRAM (the guide's laid-datum.mjs) off the statement by which the dump's own 'gosem.cut.vars' lays the variable. In a bare row this is a premise. The card (YtamcclcbmenjdaaGreatDoorCards.lean) ties it to the program's text. -/
def laid_math_bits_deBruijn64tab {H : Type} : DataW H := .agg [.lit (.int .u8 0), .lit (.int .u8 1), .lit (.int .u8 56), .lit (.int .u8 2), .lit (.int .u8 57), .lit (.int .u8 49), .lit (.int .u8 28), .lit (.int .u8 3), .lit (.int .u8 61), .lit (.int .u8 58), .lit (.int .u8 42), .lit (.int .u8 50), .lit (.int .u8 38), .lit (.int .u8 29), .lit (.int .u8 17), .lit (.int .u8 4), .lit (.int .u8 62), .lit (.int .u8 47), .lit (.int .u8 59), .lit (.int .u8 36), .lit (.int .u8 45), .lit (.int .u8 43), .lit (.int .u8 51), .lit (.int .u8 22), .lit (.int .u8 53), .lit (.int .u8 39), .lit (.int .u8 33), .lit (.int .u8 30), .lit (.int .u8 24), .lit (.int .u8 18), .lit (.int .u8 12), .lit (.int .u8 5), .lit (.int .u8 63), .lit (.int .u8 55), .lit (.int .u8 48), .lit (.int .u8 27), .lit (.int .u8 60), .lit (.int .u8 41), .lit (.int .u8 37), .lit (.int .u8 16), .lit (.int .u8 46), .lit (.int .u8 35), .lit (.int .u8 44), .lit (.int .u8 21), .lit (.int .u8 52), .lit (.int .u8 32), .lit (.int .u8 23), .lit (.int .u8 11), .lit (.int .u8 54), .lit (.int .u8 26), .lit (.int .u8 40), .lit (.int .u8 15), .lit (.int .u8 34), .lit (.int .u8 20), .lit (.int .u8 31), .lit (.int .u8 10), .lit (.int .u8 25), .lit (.int .u8 14), .lit (.int .u8 19), .lit (.int .u8 9), .lit (.int .u8 13), .lit (.int .u8 8), .lit (.int .u8 7), .lit (.int .u8 6)]
def laid_choir_frame_stepRules {H : Type} : DataW H := .agg [.agg [.lit (.int .i64 0), .lit (.int .u64 0)], .agg [.lit (.int .i64 7), .lit (.int .u64 63)], .agg [.lit (.int .i64 9), .lit (.int .u64 255)], .agg [.lit (.int .i64 12), .lit (.int .u64 2047)], .agg [.lit (.int .i64 64), .lit (.int .u64 0)]]

/-- 'choirlaw.Reads': WHATEVER THE INPUT: true; the input reads as it did. -/
def readsSpec : ChangeSpec := { name := "reads", fn := fun _ => fun
  | [d] => { results := [.lit (.bool true)], args := [d] }
  | _ => none }
def readsRow : OpenClaim := { program := "ytamcclcbmenjdaagreatdoor", sum := "c21bab7c1080ae988a3532b0a14952d4f2815b1d8c80877e8dba66b979bf8497", func := "choir/choirlaw.Reads", spec := "reads", inPlace := ["internal/bytealg.abigen_runtime_cmpstring"], unfollowed := true, recurses := true, named := ["choir/frame.stepRules", "math/bits.deBruijn64tab"], plainKeys := false, apart := false, laid := [("math/bits.deBruijn64tab", laid_math_bits_deBruijn64tab), ("choir/frame.stepRules", laid_choir_frame_stepRules)] }
def ReadsSaid : Prop := readsRow.holds Tryz.pinned (OpenSpec.ofChange readsSpec)

/-- ITS FALSE NEIGHBOUR: 'it returns false'. Refute it at one input. -/
def readsWrong : ChangeSpec := { name := "reads", fn := fun _ => fun
  | [d] => { results := [.lit (.bool false)], args := [d] }
  | _ => none }
def ReadsWrongFalsely : Prop := readsRow.holds Tryz.pinned (OpenSpec.ofChange readsWrong)

/-- 'choirlaw.Merges': WHATEVER THE INPUT: true; the input reads as it did. -/
def mergesSpec : ChangeSpec := { name := "merges", fn := fun _ => fun
  | [d] => { results := [.lit (.bool true)], args := [d] }
  | _ => none }
def mergesRow : OpenClaim := { program := "ytamcclcbmenjdaagreatdoor", sum := "c21bab7c1080ae988a3532b0a14952d4f2815b1d8c80877e8dba66b979bf8497", func := "choir/choirlaw.Merges", spec := "merges", inPlace := ["internal/bytealg.abigen_runtime_cmpstring"], unfollowed := true, recurses := true, named := ["choir/frame.stepRules", "math/bits.deBruijn64tab"], plainKeys := false, apart := false, laid := [("math/bits.deBruijn64tab", laid_math_bits_deBruijn64tab), ("choir/frame.stepRules", laid_choir_frame_stepRules)] }
def MergesSaid : Prop := mergesRow.holds Tryz.pinned (OpenSpec.ofChange mergesSpec)

/-- ITS FALSE NEIGHBOUR: 'it returns false'. Refute it at one input. -/
def mergesWrong : ChangeSpec := { name := "merges", fn := fun _ => fun
  | [d] => { results := [.lit (.bool false)], args := [d] }
  | _ => none }
def MergesWrongFalsely : Prop := mergesRow.holds Tryz.pinned (OpenSpec.ofChange mergesWrong)

/-- 'choirkeep.Lattice': WHATEVER THE INPUT: true; the input reads as it did. -/
def latticeSpec : ChangeSpec := { name := "lattice", fn := fun _ => fun
  | [d1, d2, d3] => { results := [.lit (.bool true)], args := [d1, d2, d3] }
  | _ => none }
def latticeRow : OpenClaim := { program := "ytamcclcbmenjdaagreatdoor", sum := "c21bab7c1080ae988a3532b0a14952d4f2815b1d8c80877e8dba66b979bf8497", func := "choir/choirkeep.Lattice", spec := "lattice", inPlace := ["internal/bytealg.abigen_runtime_cmpstring"], unfollowed := true, recurses := true, named := ["choir/frame.stepRules", "math/bits.deBruijn64tab"], plainKeys := false, apart := false, laid := [("math/bits.deBruijn64tab", laid_math_bits_deBruijn64tab), ("choir/frame.stepRules", laid_choir_frame_stepRules)] }
def LatticeSaid : Prop := latticeRow.holds Tryz.pinned (OpenSpec.ofChange latticeSpec)

/-- ITS FALSE NEIGHBOUR: 'it returns false'. Refute it at one input. -/
def latticeWrong : ChangeSpec := { name := "lattice", fn := fun _ => fun
  | [d1, d2, d3] => { results := [.lit (.bool false)], args := [d1, d2, d3] }
  | _ => none }
def LatticeWrongFalsely : Prop := latticeRow.holds Tryz.pinned (OpenSpec.ofChange latticeWrong)

/-- 'choirkeep.Sound': WHATEVER THE INPUT: true; the input reads as it did. -/
def soundSpec : ChangeSpec := { name := "sound", fn := fun _ => fun
  | [d] => { results := [.lit (.bool true)], args := [d] }
  | _ => none }
def soundRow : OpenClaim := { program := "ytamcclcbmenjdaagreatdoor", sum := "c21bab7c1080ae988a3532b0a14952d4f2815b1d8c80877e8dba66b979bf8497", func := "choir/choirkeep.Sound", spec := "sound", inPlace := ["internal/bytealg.abigen_runtime_cmpstring"], unfollowed := true, recurses := true, named := ["choir/frame.stepRules", "math/bits.deBruijn64tab"], plainKeys := false, apart := false, laid := [("math/bits.deBruijn64tab", laid_math_bits_deBruijn64tab), ("choir/frame.stepRules", laid_choir_frame_stepRules)] }
def SoundSaid : Prop := soundRow.holds Tryz.pinned (OpenSpec.ofChange soundSpec)

/-- ITS FALSE NEIGHBOUR: 'it returns false'. Refute it at one input. -/
def soundWrong : ChangeSpec := { name := "sound", fn := fun _ => fun
  | [d] => { results := [.lit (.bool false)], args := [d] }
  | _ => none }
def SoundWrongFalsely : Prop := soundRow.holds Tryz.pinned (OpenSpec.ofChange soundWrong)

/-- 'choirkeep.Lasts': WHATEVER THE INPUT: true; the input reads as it did. -/
def lastsSpec : ChangeSpec := { name := "lasts", fn := fun _ => fun
  | [d1, d2, d3, d4, d5, d6] => { results := [.lit (.bool true)], args := [d1, d2, d3, d4, d5, d6] }
  | _ => none }
def lastsRow : OpenClaim := { program := "ytamcclcbmenjdaagreatdoor", sum := "c21bab7c1080ae988a3532b0a14952d4f2815b1d8c80877e8dba66b979bf8497", func := "choir/choirkeep.Lasts", spec := "lasts", inPlace := ["internal/bytealg.abigen_runtime_cmpstring"], unfollowed := true, recurses := true, named := ["choir/frame.stepRules", "math/bits.deBruijn64tab"], plainKeys := false, apart := false, laid := [("math/bits.deBruijn64tab", laid_math_bits_deBruijn64tab), ("choir/frame.stepRules", laid_choir_frame_stepRules)] }
def LastsSaid : Prop := lastsRow.holds Tryz.pinned (OpenSpec.ofChange lastsSpec)

/-- ITS FALSE NEIGHBOUR: 'it returns false'. Refute it at one input. -/
def lastsWrong : ChangeSpec := { name := "lasts", fn := fun _ => fun
  | [d1, d2, d3, d4, d5, d6] => { results := [.lit (.bool false)], args := [d1, d2, d3, d4, d5, d6] }
  | _ => none }
def LastsWrongFalsely : Prop := lastsRow.holds Tryz.pinned (OpenSpec.ofChange lastsWrong)

/-- 'choirkeep.Level': WHATEVER THE INPUT: true; the input reads as it did. -/
def levelSpec : ChangeSpec := { name := "level", fn := fun _ => fun
  | [d] => { results := [.lit (.bool true)], args := [d] }
  | _ => none }
def levelRow : OpenClaim := { program := "ytamcclcbmenjdaagreatdoor", sum := "c21bab7c1080ae988a3532b0a14952d4f2815b1d8c80877e8dba66b979bf8497", func := "choir/choirkeep.Level", spec := "level", inPlace := ["internal/bytealg.abigen_runtime_cmpstring"], unfollowed := true, recurses := true, named := ["choir/frame.stepRules", "math/bits.deBruijn64tab"], plainKeys := false, apart := false, laid := [("math/bits.deBruijn64tab", laid_math_bits_deBruijn64tab), ("choir/frame.stepRules", laid_choir_frame_stepRules)] }
def LevelSaid : Prop := levelRow.holds Tryz.pinned (OpenSpec.ofChange levelSpec)

/-- ITS FALSE NEIGHBOUR: 'it returns false'. Refute it at one input. -/
def levelWrong : ChangeSpec := { name := "level", fn := fun _ => fun
  | [d] => { results := [.lit (.bool false)], args := [d] }
  | _ => none }
def LevelWrongFalsely : Prop := levelRow.holds Tryz.pinned (OpenSpec.ofChange levelWrong)

/- THE SECOND FORM. 'bulk': how many values and letters a reading holds, each counted each time it is reached (what is shared counts as often as it is met; a slice's spare places count too). A statement '..UptoSaid' is the law's where the arguments, and the package variables that the reading takes, are together of bulk at most 1048576: NARROWER than '..Said'. Prove '..Said' where nothing that the law and all that it calls make is longer than what came in: it says more and counts as full. Else prove '..UptoSaid'. A law counts once. -/
mutual
def uptoBulk {H : Type} : DataW H → Nat
  | .lit (.string bytes) => bytes.length + 1
  | .lit _ => 1
  | .nil => 1
  | .ptr d => uptoBulk d + 1
  | .slice elems spare => uptoBulkAll elems + uptoBulkAll spare + 1
  | .agg parts => uptoBulkAll parts + 1
  | .iface _ d => uptoBulk d + 1
  | .map entries => uptoBulkEntries entries + 1
  | .held _ => 1
def uptoBulkAll {H : Type} : List (DataW H) → Nat
  | [] => 0
  | d :: r => uptoBulk d + uptoBulkAll r
def uptoBulkEntries {H : Type} : List (Lit × DataW H) → Nat
  | [] => 0
  | x :: r => uptoBulkEntry x + uptoBulkEntries r
def uptoBulkEntry {H : Type} : Lit × DataW H → Nat
  | (.string bytes, d) => bytes.length + uptoBulk d + 1
  | (_, d) => uptoBulk d + 1
 end
def uptoSmall : (H : Type) → List (DataW H) → Bool := fun _ ds => decide (uptoBulkAll ds ≤ 1048576)
def OpenSpec.upto (s : _root_.Go.ChangeSpec) : _root_.Go.OpenSpec := { _root_.Go.OpenSpec.ofChange s with cond := some uptoSmall }

/-- 'choirlaw.Reads', WHERE WHAT IT READS IS OF BULK AT MOST 1048576: true; the input reads as it did. -/
def readsUptoRow : OpenClaim := { program := "ytamcclcbmenjdaagreatdoor", sum := "c21bab7c1080ae988a3532b0a14952d4f2815b1d8c80877e8dba66b979bf8497", func := "choir/choirlaw.Reads", spec := "reads", inPlace := ["internal/bytealg.abigen_runtime_cmpstring"], unfollowed := true, recurses := true, named := ["choir/frame.stepRules", "math/bits.deBruijn64tab"], plainKeys := false, apart := false, laid := [("math/bits.deBruijn64tab", laid_math_bits_deBruijn64tab), ("choir/frame.stepRules", laid_choir_frame_stepRules)], narrowed := true }
def ReadsUptoSaid : Prop := readsUptoRow.holds Tryz.pinned (OpenSpec.upto readsSpec)

/-- 'choirlaw.Merges', WHERE WHAT IT READS IS OF BULK AT MOST 1048576: true; the input reads as it did. -/
def mergesUptoRow : OpenClaim := { program := "ytamcclcbmenjdaagreatdoor", sum := "c21bab7c1080ae988a3532b0a14952d4f2815b1d8c80877e8dba66b979bf8497", func := "choir/choirlaw.Merges", spec := "merges", inPlace := ["internal/bytealg.abigen_runtime_cmpstring"], unfollowed := true, recurses := true, named := ["choir/frame.stepRules", "math/bits.deBruijn64tab"], plainKeys := false, apart := false, laid := [("math/bits.deBruijn64tab", laid_math_bits_deBruijn64tab), ("choir/frame.stepRules", laid_choir_frame_stepRules)], narrowed := true }
def MergesUptoSaid : Prop := mergesUptoRow.holds Tryz.pinned (OpenSpec.upto mergesSpec)

/-- 'choirkeep.Lattice', WHERE WHAT IT READS IS OF BULK AT MOST 1048576: true; the input reads as it did. -/
def latticeUptoRow : OpenClaim := { program := "ytamcclcbmenjdaagreatdoor", sum := "c21bab7c1080ae988a3532b0a14952d4f2815b1d8c80877e8dba66b979bf8497", func := "choir/choirkeep.Lattice", spec := "lattice", inPlace := ["internal/bytealg.abigen_runtime_cmpstring"], unfollowed := true, recurses := true, named := ["choir/frame.stepRules", "math/bits.deBruijn64tab"], plainKeys := false, apart := false, laid := [("math/bits.deBruijn64tab", laid_math_bits_deBruijn64tab), ("choir/frame.stepRules", laid_choir_frame_stepRules)], narrowed := true }
def LatticeUptoSaid : Prop := latticeUptoRow.holds Tryz.pinned (OpenSpec.upto latticeSpec)

/-- 'choirkeep.Sound', WHERE WHAT IT READS IS OF BULK AT MOST 1048576: true; the input reads as it did. -/
def soundUptoRow : OpenClaim := { program := "ytamcclcbmenjdaagreatdoor", sum := "c21bab7c1080ae988a3532b0a14952d4f2815b1d8c80877e8dba66b979bf8497", func := "choir/choirkeep.Sound", spec := "sound", inPlace := ["internal/bytealg.abigen_runtime_cmpstring"], unfollowed := true, recurses := true, named := ["choir/frame.stepRules", "math/bits.deBruijn64tab"], plainKeys := false, apart := false, laid := [("math/bits.deBruijn64tab", laid_math_bits_deBruijn64tab), ("choir/frame.stepRules", laid_choir_frame_stepRules)], narrowed := true }
def SoundUptoSaid : Prop := soundUptoRow.holds Tryz.pinned (OpenSpec.upto soundSpec)

/-- 'choirkeep.Lasts', WHERE WHAT IT READS IS OF BULK AT MOST 1048576: true; the input reads as it did. -/
def lastsUptoRow : OpenClaim := { program := "ytamcclcbmenjdaagreatdoor", sum := "c21bab7c1080ae988a3532b0a14952d4f2815b1d8c80877e8dba66b979bf8497", func := "choir/choirkeep.Lasts", spec := "lasts", inPlace := ["internal/bytealg.abigen_runtime_cmpstring"], unfollowed := true, recurses := true, named := ["choir/frame.stepRules", "math/bits.deBruijn64tab"], plainKeys := false, apart := false, laid := [("math/bits.deBruijn64tab", laid_math_bits_deBruijn64tab), ("choir/frame.stepRules", laid_choir_frame_stepRules)], narrowed := true }
def LastsUptoSaid : Prop := lastsUptoRow.holds Tryz.pinned (OpenSpec.upto lastsSpec)

/-- 'choirkeep.Level', WHERE WHAT IT READS IS OF BULK AT MOST 1048576: true; the input reads as it did. -/
def levelUptoRow : OpenClaim := { program := "ytamcclcbmenjdaagreatdoor", sum := "c21bab7c1080ae988a3532b0a14952d4f2815b1d8c80877e8dba66b979bf8497", func := "choir/choirkeep.Level", spec := "level", inPlace := ["internal/bytealg.abigen_runtime_cmpstring"], unfollowed := true, recurses := true, named := ["choir/frame.stepRules", "math/bits.deBruijn64tab"], plainKeys := false, apart := false, laid := [("math/bits.deBruijn64tab", laid_math_bits_deBruijn64tab), ("choir/frame.stepRules", laid_choir_frame_stepRules)], narrowed := true }
def LevelUptoSaid : Prop := levelUptoRow.holds Tryz.pinned (OpenSpec.upto levelSpec)

end Rows
end Go.Proofs.YtamcclcbmenjdaaGreatDoor

/-
  DERIVED. GIVEN WITH THE SEED: THE CARDS: each row of YtamcclcbmenjdaaGreatDoorRows.lean that lists a variable, with what it lists TIED to the program's text (the seventh form; the later family's looks); each row that meets fmt, with fmt's text TOLD by the authors' own Lean function (tested against real Go, not proved from fmt's source: count such statements apart). THE CARD IS WHAT COUNTS. Prove the row's statement (the work); the ties are given (YtamcclcbmenjdaaGreatDoorTie.lean); close each card by the builder's one call (the guide's Derived/Test/ToyasCard.lean, 'card_holds'). Laid BY PROGRAM, IN A SANDBOX (cutbox-door.mjs). By AI agents, Wed Nov 11 2026. No macro, syntax, notation, axiom, sorry.
-/
import Derived.Test.YtamcclcbmenjdaaGreatDoorRows
import GoSem.ClaimSeven
namespace Go.Proofs.YtamcclcbmenjdaaGreatDoor
namespace Rows

/-- THE TIED CARD OF 'choirlaw.Reads'. -/
def readsCard : Claim7 := { stood := { row := readsRow, standIns := [], harness := (true, "bfcb29946699335e804de6d275861cf3fb39bebac5a0a69fb0f49b73e181dfee"), looks := true }, kinds := [], alts := [], laidByText := true, laidKinds := [.data, .data], laidTests := true, laidLooks := .later }
def ReadsCardSaid : Prop := Claim7.holds Tryz.pinned (.plain (OpenSpec.ofChange readsSpec)) readsCard

/-- THE TIED CARD OF 'choirlaw.Merges'. -/
def mergesCard : Claim7 := { stood := { row := mergesRow, standIns := [], harness := (true, "bfcb29946699335e804de6d275861cf3fb39bebac5a0a69fb0f49b73e181dfee"), looks := true }, kinds := [], alts := [], laidByText := true, laidKinds := [.data, .data], laidTests := true, laidLooks := .later }
def MergesCardSaid : Prop := Claim7.holds Tryz.pinned (.plain (OpenSpec.ofChange mergesSpec)) mergesCard

/-- THE TIED CARD OF 'choirkeep.Lattice'. -/
def latticeCard : Claim7 := { stood := { row := latticeRow, standIns := [], harness := (true, "bfcb29946699335e804de6d275861cf3fb39bebac5a0a69fb0f49b73e181dfee"), looks := true }, kinds := [], alts := [], laidByText := true, laidKinds := [.data, .data], laidTests := true, laidLooks := .later }
def LatticeCardSaid : Prop := Claim7.holds Tryz.pinned (.plain (OpenSpec.ofChange latticeSpec)) latticeCard

/-- THE TIED CARD OF 'choirkeep.Sound'. -/
def soundCard : Claim7 := { stood := { row := soundRow, standIns := [], harness := (true, "bfcb29946699335e804de6d275861cf3fb39bebac5a0a69fb0f49b73e181dfee"), looks := true }, kinds := [], alts := [], laidByText := true, laidKinds := [.data, .data], laidTests := true, laidLooks := .later }
def SoundCardSaid : Prop := Claim7.holds Tryz.pinned (.plain (OpenSpec.ofChange soundSpec)) soundCard

/-- THE TIED CARD OF 'choirkeep.Lasts'. -/
def lastsCard : Claim7 := { stood := { row := lastsRow, standIns := [], harness := (true, "bfcb29946699335e804de6d275861cf3fb39bebac5a0a69fb0f49b73e181dfee"), looks := true }, kinds := [], alts := [], laidByText := true, laidKinds := [.data, .data], laidTests := true, laidLooks := .later }
def LastsCardSaid : Prop := Claim7.holds Tryz.pinned (.plain (OpenSpec.ofChange lastsSpec)) lastsCard

/-- THE TIED CARD OF 'choirkeep.Level'. -/
def levelCard : Claim7 := { stood := { row := levelRow, standIns := [], harness := (true, "bfcb29946699335e804de6d275861cf3fb39bebac5a0a69fb0f49b73e181dfee"), looks := true }, kinds := [], alts := [], laidByText := true, laidKinds := [.data, .data], laidTests := true, laidLooks := .later }
def LevelCardSaid : Prop := Claim7.holds Tryz.pinned (.plain (OpenSpec.ofChange levelSpec)) levelCard

/-- THE SECOND FORM's CARD OF 'choirlaw.Reads'. -/
def readsUptoCard : Claim7 := { stood := { row := readsUptoRow, standIns := [], harness := (true, "bfcb29946699335e804de6d275861cf3fb39bebac5a0a69fb0f49b73e181dfee"), looks := true }, kinds := [], alts := [], laidByText := true, laidKinds := [.data, .data], laidTests := true, laidLooks := .later }
def ReadsUptoCardSaid : Prop := Claim7.holds Tryz.pinned (.plain (OpenSpec.upto readsSpec)) readsUptoCard

/-- THE SECOND FORM's CARD OF 'choirlaw.Merges'. -/
def mergesUptoCard : Claim7 := { stood := { row := mergesUptoRow, standIns := [], harness := (true, "bfcb29946699335e804de6d275861cf3fb39bebac5a0a69fb0f49b73e181dfee"), looks := true }, kinds := [], alts := [], laidByText := true, laidKinds := [.data, .data], laidTests := true, laidLooks := .later }
def MergesUptoCardSaid : Prop := Claim7.holds Tryz.pinned (.plain (OpenSpec.upto mergesSpec)) mergesUptoCard

/-- THE SECOND FORM's CARD OF 'choirkeep.Lattice'. -/
def latticeUptoCard : Claim7 := { stood := { row := latticeUptoRow, standIns := [], harness := (true, "bfcb29946699335e804de6d275861cf3fb39bebac5a0a69fb0f49b73e181dfee"), looks := true }, kinds := [], alts := [], laidByText := true, laidKinds := [.data, .data], laidTests := true, laidLooks := .later }
def LatticeUptoCardSaid : Prop := Claim7.holds Tryz.pinned (.plain (OpenSpec.upto latticeSpec)) latticeUptoCard

/-- THE SECOND FORM's CARD OF 'choirkeep.Sound'. -/
def soundUptoCard : Claim7 := { stood := { row := soundUptoRow, standIns := [], harness := (true, "bfcb29946699335e804de6d275861cf3fb39bebac5a0a69fb0f49b73e181dfee"), looks := true }, kinds := [], alts := [], laidByText := true, laidKinds := [.data, .data], laidTests := true, laidLooks := .later }
def SoundUptoCardSaid : Prop := Claim7.holds Tryz.pinned (.plain (OpenSpec.upto soundSpec)) soundUptoCard

/-- THE SECOND FORM's CARD OF 'choirkeep.Lasts'. -/
def lastsUptoCard : Claim7 := { stood := { row := lastsUptoRow, standIns := [], harness := (true, "bfcb29946699335e804de6d275861cf3fb39bebac5a0a69fb0f49b73e181dfee"), looks := true }, kinds := [], alts := [], laidByText := true, laidKinds := [.data, .data], laidTests := true, laidLooks := .later }
def LastsUptoCardSaid : Prop := Claim7.holds Tryz.pinned (.plain (OpenSpec.upto lastsSpec)) lastsUptoCard

/-- THE SECOND FORM's CARD OF 'choirkeep.Level'. -/
def levelUptoCard : Claim7 := { stood := { row := levelUptoRow, standIns := [], harness := (true, "bfcb29946699335e804de6d275861cf3fb39bebac5a0a69fb0f49b73e181dfee"), looks := true }, kinds := [], alts := [], laidByText := true, laidKinds := [.data, .data], laidTests := true, laidLooks := .later }
def LevelUptoCardSaid : Prop := Claim7.holds Tryz.pinned (.plain (OpenSpec.upto levelSpec)) levelUptoCard
end Rows
end Go.Proofs.YtamcclcbmenjdaaGreatDoor

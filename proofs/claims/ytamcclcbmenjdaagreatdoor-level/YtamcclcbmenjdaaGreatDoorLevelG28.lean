/- 'choirkeep.Level', for any list of steps (100 of them are done): when all are up, nothing is under way, and each has told each other one, all have the same, and compacted logs are the same bytes. The first form's statement and its card: no condition beside the row's own. -/
import Derived.Test.YtamcclcbmenjdaaGreatDoorLevelG19
import Derived.Test.YtamcclcbmenjdaaGreatDoorLevelG27
import Derived.Test.YtamcclcbmenjdaaGreatDoorRows
import Derived.Deep.Slices
import Derived.Deep.Strs
import Derived.Lib.LaidTab
import Derived.OpenShut
import Derived.SizedLaws
import Derived.ProofKit
/- What the given rows' conditions mean in memory: the tables, a list of raw samples; and packed. -/
namespace Go.Proofs.YtamcclcbmenjdaaGreatDoor
open Go.RowKit Go.Lib Go.ChangeShapes Go.WideShapes

theorem gDebType : (Tryz.prog.globals[2]?).map (·.type) = some 284 := by kernel_rfl
theorem gStepType : (Tryz.prog.globals[0]?).map (·.type) = some 244 := by kernel_rfl
theorem cellsDeb : Tryz.prog.cellsOf 284 = 64 := by kernel_rfl
theorem cellsU8 : Tryz.prog.cellsOf 5 = 1 := by kernel_rfl
theorem cellsInt : Tryz.prog.cellsOf 3 = 1 := by kernel_rfl
theorem cellsU64 : Tryz.prog.cellsOf 32 = 1 := by kernel_rfl
theorem cellsRule : Tryz.prog.cellsOf 243 = 2 := by kernel_rfl
theorem rule_cells {H : Type} {enc : TypeId × Value → H} {w : World} {base fuel : Nat} {sp : Nat → Bool} {held : Bool} {cs : List Value} {a b : Int} {x : DataW H × List MemPlace}
    (h : DataW.trod enc Tryz.prog w base sp held fuel 243 cs = some x) (hx : x.1 = .agg [.lit (.int .i64 a), .lit (.int .u64 b)]) : cs = [.int .i64 a, .int .u64 b] := by
  obtain ⟨y0, y1, n, rfl, hl, h0, h1⟩ := trod_struct2 Tryz.underlying243 h
  rw [cellsRule] at hl
  simp only [cellsInt, cellsU64] at h0 h1
  obtain ⟨m0, e0, rfl, _⟩ := DataW.trod_int Tryz.underlying3 h0
  obtain ⟨m1, e1, rfl, _⟩ := DataW.trod_int Tryz.underlying32 h1
  simp only [DataW.agg.injEq, List.cons.injEq, DataW.lit.injEq, Lit.int.injEq, true_and, and_true] at hx
  obtain ⟨rfl, rfl⟩ := hx
  match cs, hl with
  | [c0, c1], _ =>
    simp at e0 e1
    rw [e0, e1]
theorem tabs_of {W : World} (h : laidMetH Tryz.prog Rows.readsRow.laid W) : Tabs W := by
  have h' : laidMet Tryz.prog Rows.readsRow.laid W := h
  obtain ⟨ps, ⟨g1, t1, cs1, fuel1, p1, q1, hg1, ht1, hvar1, hd1, ⟨g, t, cs, fuel, p, q, hg, ht, hvar, hd, _, _⟩, _⟩, _⟩ := h'
  have e1 : some g1 = some 2 := hg1.symm.trans (by kernel_rfl)
  obtain rfl := Option.some.inj e1
  obtain rfl := Option.some.inj (gDebType.symm.trans ht1)
  have e2 : some g = some 0 := hg.symm.trans (by kernel_rfl)
  obtain rfl := Option.some.inj e2
  obtain rfl := Option.some.inj (gStepType.symm.trans ht)
  have hz : cs1.toList = (Lib.deBruijn64tab.map fun (n : Nat) => (n : Int)).map fun z => Value.int .u8 z := Lib.cells_of_tab Tryz.underlying284 Tryz.underlying5 cellsU8 cellsDeb hd1
  have htz : TabAt 2 Lib.deBruijn64tab W := fun j hj => by
    rw [World.var?_cell hg1 hvar1 j, ← Array.getElem?_toList, hz]
    simp [List.getD, hj]
  obtain ⟨xs, m, _, hx, hcl, hxl, hel⟩ := DataW.trod_array Tryz.underlying244 hd
  have hx1 : (DataW.agg (xs.map (·.1)) : DataW Unit) = Rows.laid_choir_frame_stepRules := (congrArg Prod.fst hx).symm
  rw [cellsRule] at hel
  match xs, hxl, hx1, hel with
  | [x0, x1, x2, x3, x4], _, hx1, hel =>
    simp only [Rows.laid_choir_frame_stepRules, List.map_cons, List.map_nil, DataW.agg.injEq, List.cons.injEq, and_true] at hx1
    obtain ⟨d0, d1, d2, d3, d4⟩ := hx1
    have hc : ∀ i, W.cell? ⟨0, i, none⟩ = cs.toList[i]? := fun i => by rw [World.var?_cell hg hvar i]; simp
    have r0 := rule_cells (hel 0 (by omega)) d0
    have r1 := rule_cells (hel 1 (by omega)) d1
    have r2 := rule_cells (hel 2 (by omega)) d2
    have r3 := rule_cells (hel 3 (by omega)) d3
    have r4 := rule_cells (hel 4 (by omega)) d4
    have hp : ∀ (i : Nat) (a b : Value), (cs.toList.drop (i * 2)).take 2 = [a, b] → cs.toList[i * 2]? = some a ∧ cs.toList[i * 2 + 1]? = some b := fun i a b e => by
      have e0 := congrArg (·[0]?) e
      have e1 := congrArg (·[1]?) e
      simp [List.getElem?_drop] at e0 e1
      exact ⟨by simpa using e0, by simpa using e1⟩
    have p0 := hp 0 _ _ r0
    have p1 := hp 1 _ _ r1
    have p2 := hp 2 _ _ r2
    have p3 := hp 3 _ _ r3
    have p4 := hp 4 _ _ r4
    exact ⟨(hc 0).trans p0.1, (hc 1).trans p0.2, (hc 2).trans p1.1, (hc 3).trans p1.2, (hc 4).trans p2.1, (hc 5).trans p2.2, (hc 6).trans p3.1, (hc 7).trans p3.2, (hc 8).trans p4.1, (hc 9).trans p4.2, htz⟩

set_option maxHeartbeats 400000 in
theorem packed_any (B : Nat) (v : Value) (bs : List Ser) (w : World) (hS : BatchAt w B v bs) (hB : B ≤ w.heap.size) (hT : Tabs w) (h1 : BatchOk bs) (h2 : LimitsOk bs) :
    Calls Tryz.prog 15 #[v] w fun e w' => e = .returned (.tuple #[.string (BA (frameOf (payload bs))), .bool true]) ∧ Below w.heap.size w w' := by
  have C := hide (encode_any B v bs w hS hB hT (small_of h2))
  obtain ⟨va, vc, rfl, _⟩ := id hS
  have hne : (frameOf (payload bs)).isEmpty = false := by simp [frameOf, headOf]
  have HN := hide hne
  clear hS hT hne
  go_enter Tryz.func15, Tryz.ntmps15
  go_wp2_with fail
  refine C.out.mono ?_
  rintro e w1 ⟨⟨n, hn, rfl⟩, hb⟩
  have h0 : n = 0 := by
    rcases hn with ⟨_, h⟩ | ⟨_, _, h⟩ | ⟨h, _⟩
    · exact absurd h1 h
    · exact absurd h2 h
    · exact h
  subst h0
  have HB := hide hb
  simp only [if_true]
  clear hn hb C
  go_wp2
  go_ret2
  refine ⟨?_, HB.out⟩
  show Ending.returned (Value.tuple #[.string (BA (frameOf (payload bs))), .bool (!(frameOf (payload bs)).isEmpty)]) = _
  rw [HN.out]; rfl

/-- The tables' cells, and a heap with the tables laid in it: for the witness. -/
def stepCells : Array Value := #[.int .i64 0, .int .u64 0, .int .i64 7, .int .u64 63, .int .i64 9, .int .u64 255, .int .i64 12, .int .u64 2047, .int .i64 64, .int .u64 0]
def debCells : Array Value := #[.int .u8 0, .int .u8 1, .int .u8 56, .int .u8 2, .int .u8 57, .int .u8 49, .int .u8 28, .int .u8 3, .int .u8 61, .int .u8 58, .int .u8 42, .int .u8 50, .int .u8 38, .int .u8 29, .int .u8 17, .int .u8 4, .int .u8 62, .int .u8 47, .int .u8 59, .int .u8 36, .int .u8 45, .int .u8 43, .int .u8 51, .int .u8 22, .int .u8 53, .int .u8 39, .int .u8 33, .int .u8 30, .int .u8 24, .int .u8 18, .int .u8 12, .int .u8 5, .int .u8 63, .int .u8 55, .int .u8 48, .int .u8 27, .int .u8 60, .int .u8 41, .int .u8 37, .int .u8 16, .int .u8 46, .int .u8 35, .int .u8 44, .int .u8 21, .int .u8 52, .int .u8 32, .int .u8 23, .int .u8 11, .int .u8 54, .int .u8 26, .int .u8 40, .int .u8 15, .int .u8 34, .int .u8 20, .int .u8 31, .int .u8 10, .int .u8 25, .int .u8 14, .int .u8 19, .int .u8 9, .int .u8 13, .int .u8 8, .int .u8 7, .int .u8 6]
def layTabs (h : Array Obj) : Array Obj := (h.modify 0 fun
    | .cells _ t frozen => .cells stepCells t frozen
    | o => o).modify 2 fun
    | .cells _ t frozen => .cells debCells t frozen
    | o => o
end Go.Proofs.YtamcclcbmenjdaaGreatDoor

/- 'choirkeep.Level', for any list of steps (100 of them are done): when all are up, nothing is under way, and each has told each other one, all have the same, and compacted logs are the same bytes. The first form's statement and its card: no condition beside the row's own. -/
import Derived.Test.YtamcclcbmenjdaaGreatDoorLevelG2
import Derived.Deep.Slices
import Derived.OpenShut
import Derived.SizedLaws
import Derived.ProofKit
import Derived.Test.YtamcclcbmenjdaaGreatDoorLevelG19
import Derived.Test.YtamcclcbmenjdaaGreatDoorLevelG22
import Derived.Test.YtamcclcbmenjdaaGreatDoorRows
import Derived.Deep.Strs
import Derived.Lib.LaidTab
/- A list of series that came in: what it is in memory. -/
namespace Go.Proofs.YtamcclcbmenjdaaGreatDoor
open Go.RowKit Go.Lib Go.ChangeShapes Go.WideShapes

theorem cellsStr : Tryz.prog.cellsOf 9 = 1 := by kernel_rfl
theorem cellsI : Tryz.prog.cellsOf 3 = 1 := by kernel_rfl
theorem cellsW : Tryz.prog.cellsOf 32 = 1 := by kernel_rfl
theorem cellsLab : Tryz.prog.cellsOf 80 = 2 := by kernel_rfl
theorem cellsSam : Tryz.prog.cellsOf 34 = 2 := by kernel_rfl
theorem cellsSer : Tryz.prog.cellsOf 38 = 2 := by kernel_rfl
theorem cellsLs : Tryz.prog.cellsOf 36 = 1 := by kernel_rfl
theorem cellsSs : Tryz.prog.cellsOf 35 = 1 := by kernel_rfl
theorem bytesLab : Tryz.prog.bytesOf 80 = 32 := by kernel_rfl
theorem bytesSam : Tryz.prog.bytesOf 34 = 16 := by kernel_rfl
theorem bytesSer : Tryz.prog.bytesOf 38 = 48 := by kernel_rfl

/-- Nothing in it is too great. -/
def Light {H : Type} (t : TypeId) (d : DataW H) : Prop := ∀ n ∈ d.weights Tryz.prog t, n ≤ reachBytes
theorem weights_all {H : Type} {e : TypeId} {l : List (DataW H)} {d : DataW H} (hd : d ∈ l) : ∀ n ∈ d.weights Tryz.prog e, n ∈ DataW.weightsAll Tryz.prog e l := by
  induction l with
  | nil => cases hd
  | cons a r ih =>
    intro n hn
    rw [DataW.weightsAll]
    rcases List.mem_cons.1 hd with rfl | hd
    · exact List.mem_append_left _ hn
    · exact List.mem_append_right _ (ih hd n hn)
theorem Light.elem {H : Type} {t e : TypeId} {elems spare : List (DataW H)} (hu : Tryz.prog.underlying t = some (.slice e)) (h : Light t (.slice elems spare)) {d : DataW H} (hd : d ∈ elems) : Light e d := fun n hn => by
  apply h
  rw [DataW.weights, hu]
  exact List.mem_cons_of_mem _ (List.mem_append_left _ (weights_all hd n hn))
theorem Light.len {H : Type} {t e : TypeId} {elems spare : List (DataW H)} (hu : Tryz.prog.underlying t = some (.slice e)) (h : Light t (.slice elems spare)) : elems.length * Tryz.prog.bytesOf e ≤ reachBytes := by
  have h1 := h ((elems.length + spare.length) * Tryz.prog.bytesOf e) (by rw [DataW.weights, hu]; exact List.mem_cons_self ..)
  exact Nat.le_trans (Nat.mul_le_mul_right _ (by omega)) h1
theorem Light.pair {H : Type} {t : TypeId} {f0 f1 : Field} {d0 d1 : DataW H} (hu : Tryz.prog.underlying t = some (.struct #[f0, f1])) (h : Light t (.agg [d0, d1])) : Light f0.type d0 ∧ Light f1.type d1 := by
  have hw : (DataW.agg [d0, d1]).weights Tryz.prog t = d0.weights Tryz.prog f0.type ++ (d1.weights Tryz.prog f1.type ++ []) := by
    rw [DataW.weights, hu]; rfl
  refine ⟨fun n hn => h n ?_, fun n hn => h n ?_⟩
  · rw [hw]; exact List.mem_append_left _ hn
  · rw [hw]; exact List.mem_append_right _ (List.mem_append_left _ hn)

theorem in_add (b o n : Nat) : (⟨b, o, none⟩ : Addr).add n = ⟨b, o + n, none⟩ := by
  unfold Addr.add; split <;> simp_all
/-- A slice of structs of two cells. -/
theorem slice_pairs {H : Type} {enc : TypeId × Value → H} {W : World} {T e : TypeId} (hT : Tryz.prog.underlying T = some (.slice e)) (he : Tryz.prog.cellsOf e = 2) {α : Type} [Inhabited α] (R : α → Value → Value → Prop)
    (each : ∀ (n : Nat) (c0 c1 : Value) (y : DataW H × List MemPlace), DataW.trod enc Tryz.prog W 0 (fun _ => true) true n e [c0, c1] = some y → Light e y.1 → ∃ z : α, R z c0 c1)
    {fuel : Nat} {cs : List Value} {x : DataW H × List MemPlace} (h : DataW.trod enc Tryz.prog W 0 (fun _ => true) true fuel T cs = some x) (hw : Light T x.1) :
    ∃ (a : Option Addr) (cap : Nat) (l : List α), cs = [.slice a l.length cap] ∧ l.length ≤ cap ∧ l.length * Tryz.prog.bytesOf e ≤ reachBytes ∧
      (l = [] ∨ ∃ b o, a = some ⟨b, o, none⟩ ∧ b < W.heap.size ∧ ∀ i z, l[i]? = some z → ∃ c0 c1, W.cell? ⟨b, o + i * 2, none⟩ = some c0 ∧ W.cell? ⟨b, o + i * 2 + 1, none⟩ = some c1 ∧ R z c0 c1) := by
  rcases Go.Deep.open_slice hT h with ⟨hcs, hx⟩ | ⟨a, len, cap, m, n, D, Pl, hcs, hb, hl, hm, hmm, hx, hel⟩
  · exact ⟨none, 0, [], hcs, Nat.le_refl _, by simp, .inl rfl⟩
  · simp only [if_true] at hmm
    subst hmm
    have hd : x.1 = .slice ((List.range len).map D) ((List.range (m - len)).map fun j => D (len + j)) := congrArg Prod.fst hx
    rw [hd] at hw
    rw [he] at hel
    have hone : ∀ i, i < len → ∃ z : α, ∃ c0 c1, W.cell? (a.add (i * 2)) = some c0 ∧ W.cell? ((a.add (i * 2)).add 1) = some c1 ∧ R z c0 c1 := fun i hi => by
      obtain ⟨cs', h1, h2⟩ := hel i (by omega)
      obtain ⟨_, hlen, hcell⟩ := World.cells?_some h1
      match cs', hlen, hcell, h2 with
      | [c0, c1], _, hcell, h2 =>
        have q0 := hcell 0 (by omega)
        have q1 := hcell 1 (by omega)
        have z0 : (a.add (i * 2)).add 0 = a.add (i * 2) := by unfold Addr.add; simp
        rw [z0] at q0
        obtain ⟨z, hz⟩ := each n c0 c1 _ h2 (hw.elem hT (List.mem_map.2 ⟨i, List.mem_range.2 hi, rfl⟩))
        exact ⟨z, c0, c1, q0, q1, hz⟩
    obtain ⟨F, hF⟩ := Go.Deep.choose_lt hone
    have hlen : ((List.range len).map F).length = len := by simp
    refine ⟨some a, m, (List.range len).map F, by rw [hlen]; exact hcs, by omega, ?_, ?_⟩
    · have := hw.len hT
      rw [hlen]
      simpa using this
    · by_cases h0 : len = 0
      · subst h0; exact .inl rfl
      · obtain ⟨b, o, spot⟩ := a
        have hs : spot = none := by
          obtain ⟨c0, c1, h1, _⟩ := hF 0 (by omega)
          simpa [Addr.add] using World.cell?_spot h1
        subst hs
        have hb0 : b < W.heap.size := by
          obtain ⟨c0, c1, h1, _⟩ := hF 0 (by omega)
          exact World.block_lt_of_cell? W _ h1
        refine .inr ⟨b, o, rfl, hb0, fun i z hz => ?_⟩
        have hi : i < len := by have := (List.getElem?_eq_some_iff.1 hz).1; simpa using this
        have e : z = F i := by
          rw [List.getElem?_map, List.getElem?_range hi] at hz
          exact (Option.some.inj hz).symm
        subst e
        obtain ⟨c0, c1, h1, h2, h3⟩ := hF i hi
        rw [in_add] at h1 h2
        rw [in_add] at h2
        exact ⟨c0, c1, h1, h2, h3⟩

theorem lab_in {H : Type} {enc : TypeId × Value → H} {W : World} (n : Nat) (c0 c1 : Value) (y : DataW H × List MemPlace) (h : DataW.trod enc Tryz.prog W 0 (fun _ => true) true n 80 [c0, c1] = some y) (_ : Light 80 y.1) : ∃ z : Lab, c0 = .string z.1 ∧ c1 = .string z.2 := by
  obtain ⟨y0, y1, n, rfl, hl, h0, h1⟩ := trod_struct2 Tryz.underlying80 h
  simp only [cellsStr] at h0 h1
  obtain ⟨s0, e0, _, _⟩ := DataW.trod_string Tryz.underlying9 h0
  obtain ⟨s1, e1, _, _⟩ := DataW.trod_string Tryz.underlying9 h1
  simp at e0 e1
  exact ⟨(s0, s1), e0, e1⟩
theorem in_i64 {n : Int} (h : (Lit.int .i64 n).wf = true) : -9223372036854775808 ≤ n ∧ n ≤ 9223372036854775807 := by
  simp [Lit.wf, IntKind.min, IntKind.max, IntKind.signed, IntKind.bits] at h
  omega
theorem in_u64 {n : Int} (h : (Lit.int .u64 n).wf = true) : 0 ≤ n ∧ n ≤ 18446744073709551615 := by
  simp [Lit.wf, IntKind.min, IntKind.max, IntKind.signed, IntKind.bits] at h
  omega
theorem sam_in {H : Type} {enc : TypeId × Value → H} {W : World} (n : Nat) (c0 c1 : Value) (y : DataW H × List MemPlace) (h : DataW.trod enc Tryz.prog W 0 (fun _ => true) true n 34 [c0, c1] = some y) (_ : Light 34 y.1) :
    ∃ z : Int × Nat, c0 = .int .i64 z.1 ∧ c1 = .int .u64 (z.2 : Int) ∧ -9223372036854775808 ≤ z.1 ∧ z.1 ≤ 9223372036854775807 ∧ z.2 ≤ 18446744073709551615 := by
  obtain ⟨y0, y1, n, rfl, hl, h0, h1⟩ := trod_struct2 Tryz.underlying34 h
  simp only [cellsI, cellsW] at h0 h1
  obtain ⟨m0, e0, _, w0⟩ := DataW.trod_int Tryz.underlying3 h0
  obtain ⟨m1, e1, _, w1⟩ := DataW.trod_int Tryz.underlying32 h1
  simp at e0 e1
  have b0 := in_i64 w0
  have b1 := in_u64 w1
  exact ⟨(m0, m1.toNat), e0, by rw [e1]; show Value.int .u64 m1 = .int .u64 (m1.toNat : Int); rw [Int.toNat_of_nonneg b1.1], b0.1, b0.2, by show m1.toNat ≤ _; omega⟩
/-- A series that came in. -/
def SerIn (W : World) (s : Ser) (c0 c1 : Value) : Prop := LabelsAt W W.heap.size c0 s.1 ∧ SamplesAt W W.heap.size c1 s.2 ∧ s.1.length * 32 ≤ reachBytes ∧ s.2.length * 16 ≤ reachBytes
theorem ser_in {H : Type} {enc : TypeId × Value → H} {W : World} (n : Nat) (c0 c1 : Value) (y : DataW H × List MemPlace) (h : DataW.trod enc Tryz.prog W 0 (fun _ => true) true n 38 [c0, c1] = some y) (hw : Light 38 y.1) : ∃ z : Ser, SerIn W z c0 c1 := by
  obtain ⟨y0, y1, n, rfl, hl, h0, h1⟩ := trod_struct2 Tryz.underlying38 h
  obtain ⟨l0, l1⟩ := hw.pair Tryz.underlying38
  simp only [cellsLs, cellsSs] at h0 h1 l0 l1
  obtain ⟨a, cap, l, e0, hc, hby, hcell⟩ := slice_pairs Tryz.underlying36 cellsLab (fun (z : Lab) c0 c1 => c0 = .string z.1 ∧ c1 = .string z.2) lab_in h0 l0
  obtain ⟨b, cap2, m, e1, hc2, hby2, hcell2⟩ := slice_pairs Tryz.underlying35 cellsSam (fun (z : Int × Nat) c0 c1 => c0 = .int .i64 z.1 ∧ c1 = .int .u64 (z.2 : Int) ∧ -9223372036854775808 ≤ z.1 ∧ z.1 ≤ 9223372036854775807 ∧ z.2 ≤ 18446744073709551615) sam_in h1 l1
  rw [bytesLab] at hby
  rw [bytesSam] at hby2
  simp at e0 e1
  subst e0 e1
  refine ⟨(l, m), ⟨a, cap, rfl, hc, ?_⟩, ⟨b, cap2, rfl, hc2, fun x hx => ?_, ?_⟩, hby, hby2⟩
  · rcases hcell with h | ⟨b, o, ha, hb, hh⟩
    · exact .inl h
    · refine .inr ⟨b, o, ha, hb, fun i x hx => ?_⟩
      obtain ⟨c0, c1, h1, h2, rfl, rfl⟩ := hh i x hx
      exact ⟨h1, h2⟩
  · rcases hcell2 with h | ⟨b, o, ha, hb, hh⟩
    · rw [h] at hx; cases hx
    · obtain ⟨i, hi, rfl⟩ := List.mem_iff_getElem.1 hx
      obtain ⟨c0, c1, _, _, _, _, h3⟩ := hh i _ (List.getElem?_eq_getElem hi)
      exact h3
  · rcases hcell2 with h | ⟨b, o, ha, hb, hh⟩
    · exact .inl h
    · refine .inr ⟨b, o, ha, hb, fun i x hx => ?_⟩
      obtain ⟨c0, c1, h1, h2, rfl, rfl, _⟩ := hh i x hx
      exact ⟨h1, h2⟩
/-- A list of series that came in. -/
theorem batch_in {H : Type} {enc : TypeId × Value → H} {W : World} {a0 : Option Addr} {len0 cap0 : Nat} {d : DataW H} {ps : List MemPlace} (h : DataW.Trod enc Tryz.prog W 0 (fun _ => true) true 39 (.slice a0 len0 cap0) d ps) (hw : Light 39 d) :
    ∃ bs : List Ser, BatchAt W W.heap.size (.slice a0 len0 cap0) bs ∧ bs.length * 48 ≤ reachBytes ∧ ∀ s ∈ bs, s.1.length * 32 ≤ reachBytes ∧ s.2.length * 16 ≤ reachBytes := by
  obtain ⟨fuel, hf⟩ := h
  have hf' : DataW.trod enc Tryz.prog W 0 (fun _ => true) true fuel 39 [.slice a0 len0 cap0] = some (d, ps) := hf
  obtain ⟨a, cap, l, e0, hc, hby, hcell⟩ := slice_pairs Tryz.underlying39 cellsSer (SerIn W) ser_in hf' hw
  rw [bytesSer] at hby
  simp only [List.cons.injEq, and_true] at e0
  rw [e0]
  refine ⟨l, ⟨a, cap, rfl, hc, ?_⟩, hby, fun s hs => ?_⟩
  · rcases hcell with h | ⟨b, o, ha, hb, hh⟩
    · exact .inl h
    · refine .inr ⟨b, o, ha, hb, fun i x hx => ?_⟩
      obtain ⟨c0, c1, h1, h2, h3, h4, _⟩ := hh i x hx
      exact ⟨c0, c1, h1, h2, h3, h4⟩
  · rcases hcell with h | ⟨b, o, ha, hb, hh⟩
    · rw [h] at hs; cases hs
    · obtain ⟨i, hi, rfl⟩ := List.mem_iff_getElem.1 hs
      obtain ⟨c0, c1, _, _, _, _, h3⟩ := hh i _ (List.getElem?_eq_getElem hi)
      exact h3
theorem light_of {H : Type} {ts : List TypeId} {ds : List (DataW H)} (h : (DataW.weightsEach Tryz.prog ts ds).all (· ≤ reachBytes) = true) {j : Nat} {t : TypeId} {d : DataW H} (ht : ts[j]? = some t) (hd : ds[j]? = some d) : Light t d := fun n hn => by
  have := List.all_eq_true.1 h n (DataW.weights_mem_each ht hd n hn)
  simpa using this
end Go.Proofs.YtamcclcbmenjdaaGreatDoor

/- What the given rows' conditions mean in memory: the tables, a list of raw samples; and packed. -/
namespace Go.Proofs.YtamcclcbmenjdaaGreatDoor
open Go.RowKit Go.Lib Go.ChangeShapes Go.WideShapes

theorem gDebType : (Tryz.prog.globals[2]?).map (·.type) = some 284 := by kernel_rfl
theorem gStepType : (Tryz.prog.globals[0]?).map (·.type) = some 244 := by kernel_rfl
theorem cellsDeb : Tryz.prog.cellsOf 284 = 64 := by kernel_rfl
theorem cellsU8 : Tryz.prog.cellsOf 5 = 1 := by kernel_rfl
theorem cellsInt : Tryz.prog.cellsOf 3 = 1 := by kernel_rfl
theorem cellsU64 : Tryz.prog.cellsOf 32 = 1 := by kernel_rfl
theorem cellsRule : Tryz.prog.cellsOf 243 = 2 := by kernel_rfl
theorem rule_cells {H : Type} {enc : TypeId × Value → H} {w : World} {base fuel : Nat} {sp : Nat → Bool} {held : Bool} {cs : List Value} {a b : Int} {x : DataW H × List MemPlace}
    (h : DataW.trod enc Tryz.prog w base sp held fuel 243 cs = some x) (hx : x.1 = .agg [.lit (.int .i64 a), .lit (.int .u64 b)]) : cs = [.int .i64 a, .int .u64 b] := by
  obtain ⟨y0, y1, n, rfl, hl, h0, h1⟩ := trod_struct2 Tryz.underlying243 h
  rw [cellsRule] at hl
  simp only [cellsInt, cellsU64] at h0 h1
  obtain ⟨m0, e0, rfl, _⟩ := DataW.trod_int Tryz.underlying3 h0
  obtain ⟨m1, e1, rfl, _⟩ := DataW.trod_int Tryz.underlying32 h1
  simp only [DataW.agg.injEq, List.cons.injEq, DataW.lit.injEq, Lit.int.injEq, true_and, and_true] at hx
  obtain ⟨rfl, rfl⟩ := hx
  match cs, hl with
  | [c0, c1], _ =>
    simp at e0 e1
    rw [e0, e1]
theorem tabs_of {W : World} (h : laidMetH Tryz.prog Rows.readsRow.laid W) : Tabs W := by
  have h' : laidMet Tryz.prog Rows.readsRow.laid W := h
  obtain ⟨ps, ⟨g1, t1, cs1, fuel1, p1, q1, hg1, ht1, hvar1, hd1, ⟨g, t, cs, fuel, p, q, hg, ht, hvar, hd, _, _⟩, _⟩, _⟩ := h'
  have e1 : some g1 = some 2 := hg1.symm.trans (by kernel_rfl)
  obtain rfl := Option.some.inj e1
  obtain rfl := Option.some.inj (gDebType.symm.trans ht1)
  have e2 : some g = some 0 := hg.symm.trans (by kernel_rfl)
  obtain rfl := Option.some.inj e2
  obtain rfl := Option.some.inj (gStepType.symm.trans ht)
  have hz : cs1.toList = (Lib.deBruijn64tab.map fun (n : Nat) => (n : Int)).map fun z => Value.int .u8 z := Lib.cells_of_tab Tryz.underlying284 Tryz.underlying5 cellsU8 cellsDeb hd1
  have htz : TabAt 2 Lib.deBruijn64tab W := fun j hj => by
    rw [World.var?_cell hg1 hvar1 j, ← Array.getElem?_toList, hz]
    simp [List.getD, hj]
  obtain ⟨xs, m, _, hx, hcl, hxl, hel⟩ := DataW.trod_array Tryz.underlying244 hd
  have hx1 : (DataW.agg (xs.map (·.1)) : DataW Unit) = Rows.laid_choir_frame_stepRules := (congrArg Prod.fst hx).symm
  rw [cellsRule] at hel
  match xs, hxl, hx1, hel with
  | [x0, x1, x2, x3, x4], _, hx1, hel =>
    simp only [Rows.laid_choir_frame_stepRules, List.map_cons, List.map_nil, DataW.agg.injEq, List.cons.injEq, and_true] at hx1
    obtain ⟨d0, d1, d2, d3, d4⟩ := hx1
    have hc : ∀ i, W.cell? ⟨0, i, none⟩ = cs.toList[i]? := fun i => by rw [World.var?_cell hg hvar i]; simp
    have r0 := rule_cells (hel 0 (by omega)) d0
    have r1 := rule_cells (hel 1 (by omega)) d1
    have r2 := rule_cells (hel 2 (by omega)) d2
    have r3 := rule_cells (hel 3 (by omega)) d3
    have r4 := rule_cells (hel 4 (by omega)) d4
    have hp : ∀ (i : Nat) (a b : Value), (cs.toList.drop (i * 2)).take 2 = [a, b] → cs.toList[i * 2]? = some a ∧ cs.toList[i * 2 + 1]? = some b := fun i a b e => by
      have e0 := congrArg (·[0]?) e
      have e1 := congrArg (·[1]?) e
      simp [List.getElem?_drop] at e0 e1
      exact ⟨by simpa using e0, by simpa using e1⟩
    have p0 := hp 0 _ _ r0
    have p1 := hp 1 _ _ r1
    have p2 := hp 2 _ _ r2
    have p3 := hp 3 _ _ r3
    have p4 := hp 4 _ _ r4
    exact ⟨(hc 0).trans p0.1, (hc 1).trans p0.2, (hc 2).trans p1.1, (hc 3).trans p1.2, (hc 4).trans p2.1, (hc 5).trans p2.2, (hc 6).trans p3.1, (hc 7).trans p3.2, (hc 8).trans p4.1, (hc 9).trans p4.2, htz⟩

set_option maxHeartbeats 400000 in
theorem packed_any (B : Nat) (v : Value) (bs : List Ser) (w : World) (hS : BatchAt w B v bs) (hB : B ≤ w.heap.size) (hT : Tabs w) (h1 : BatchOk bs) (h2 : LimitsOk bs) :
    Calls Tryz.prog 15 #[v] w fun e w' => e = .returned (.tuple #[.string (BA (frameOf (payload bs))), .bool true]) ∧ Below w.heap.size w w' := by
  have C := hide (encode_any B v bs w hS hB hT (small_of h2))
  obtain ⟨va, vc, rfl, _⟩ := id hS
  have hne : (frameOf (payload bs)).isEmpty = false := by simp [frameOf, headOf]
  have HN := hide hne
  clear hS hT hne
  go_enter Tryz.func15, Tryz.ntmps15
  go_wp2_with fail
  refine C.out.mono ?_
  rintro e w1 ⟨⟨n, hn, rfl⟩, hb⟩
  have h0 : n = 0 := by
    rcases hn with ⟨_, h⟩ | ⟨_, _, h⟩ | ⟨h, _⟩
    · exact absurd h1 h
    · exact absurd h2 h
    · exact h
  subst h0
  have HB := hide hb
  simp only [if_true]
  clear hn hb C
  go_wp2
  go_ret2
  refine ⟨?_, HB.out⟩
  show Ending.returned (Value.tuple #[.string (BA (frameOf (payload bs))), .bool (!(frameOf (payload bs)).isEmpty)]) = _
  rw [HN.out]; rfl

/-- The tables' cells, and a heap with the tables laid in it: for the witness. -/
def stepCells : Array Value := #[.int .i64 0, .int .u64 0, .int .i64 7, .int .u64 63, .int .i64 9, .int .u64 255, .int .i64 12, .int .u64 2047, .int .i64 64, .int .u64 0]
def debCells : Array Value := #[.int .u8 0, .int .u8 1, .int .u8 56, .int .u8 2, .int .u8 57, .int .u8 49, .int .u8 28, .int .u8 3, .int .u8 61, .int .u8 58, .int .u8 42, .int .u8 50, .int .u8 38, .int .u8 29, .int .u8 17, .int .u8 4, .int .u8 62, .int .u8 47, .int .u8 59, .int .u8 36, .int .u8 45, .int .u8 43, .int .u8 51, .int .u8 22, .int .u8 53, .int .u8 39, .int .u8 33, .int .u8 30, .int .u8 24, .int .u8 18, .int .u8 12, .int .u8 5, .int .u8 63, .int .u8 55, .int .u8 48, .int .u8 27, .int .u8 60, .int .u8 41, .int .u8 37, .int .u8 16, .int .u8 46, .int .u8 35, .int .u8 44, .int .u8 21, .int .u8 52, .int .u8 32, .int .u8 23, .int .u8 11, .int .u8 54, .int .u8 26, .int .u8 40, .int .u8 15, .int .u8 34, .int .u8 20, .int .u8 31, .int .u8 10, .int .u8 25, .int .u8 14, .int .u8 19, .int .u8 9, .int .u8 13, .int .u8 8, .int .u8 7, .int .u8 6]
def layTabs (h : Array Obj) : Array Obj := (h.modify 0 fun
    | .cells _ t frozen => .cells stepCells t frozen
    | o => o).modify 2 fun
    | .cells _ t frozen => .cells debCells t frozen
    | o => o
end Go.Proofs.YtamcclcbmenjdaaGreatDoor

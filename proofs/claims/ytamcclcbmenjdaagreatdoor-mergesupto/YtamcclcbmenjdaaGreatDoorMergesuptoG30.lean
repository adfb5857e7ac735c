/- 'choirlaw.Merges', for any list of texts of bulk at most 1048576: Merge answers the document's frame or error; what is handed in stays. The second form's statement and its card: its only condition is the row's own bound on the argument's bulk. -/
import Derived.Test.YtamcclcbmenjdaaGreatDoorMergesuptoG2
import Derived.Test.YtamcclcbmenjdaaGreatDoorMergesuptoG21
import Derived.Deep.Slices
import Derived.Deep.Strs
import Derived.OpenShut
import Derived.SizedLaws
import Derived.ProofKit
import Derived.Test.YtamcclcbmenjdaaGreatDoorMergesuptoG15
import Derived.Test.YtamcclcbmenjdaaGreatDoorRows
import Derived.Lib.LaidTab
/- A heap, pure: what container/heap's loops keep. -/
namespace Go.Proofs.YtamcclcbmenjdaaGreatDoor.Hp

variable {α : Type}
/-- f with the places i and j turned round. -/
def swp (f : Nat → α) (i j : Nat) : Nat → α := fun k => if k = i then f j else if k = j then f i else f k
def IsHeap (le : α → α → Prop) (f : Nat → α) (n : Nat) : Prop := ∀ k, 0 < k → k < n → le (f ((k - 1) / 2)) (f k)
structure UpInv (le : α → α → Prop) (f : Nat → α) (n j : Nat) : Prop where
  rest : ∀ k, 0 < k → k < n → k ≠ j → le (f ((k - 1) / 2)) (f k)
  over : 0 < j → ∀ k, 0 < k → k < n → (k - 1) / 2 = j → le (f ((j - 1) / 2)) (f k)
structure DownInv (le : α → α → Prop) (f : Nat → α) (n i : Nat) : Prop where
  rest : ∀ k, 0 < k → k < n → (k - 1) / 2 ≠ i → le (f ((k - 1) / 2)) (f k)
  over : 0 < i → ∀ k, 0 < k → k < n → (k - 1) / 2 = i → le (f ((i - 1) / 2)) (f k)

theorem up_start {le : α → α → Prop} {f g : Nat → α} {n : Nat} (h : IsHeap le f n) (hg : ∀ k, k < n → g k = f k) : UpInv le g (n + 1) n := by
  refine ⟨fun k h0 hk hne => ?_, fun h0 k hk0 hk he => by omega⟩
  rw [hg _ (by omega), hg _ (by omega)]; exact h k h0 (by omega)
theorem up_step {le : α → α → Prop} (tot : ∀ a b, le a b ∨ le b a) (tr : ∀ {a b c}, le a b → le b c → le a c) {f : Nat → α} {n j : Nat} (h : UpInv le f n j) (hj : j < n) (h0 : 0 < j) (hlt : ¬ le (f ((j - 1) / 2)) (f j)) : UpInv le (swp f ((j - 1) / 2) j) n ((j - 1) / 2) := by
  have hle : le (f j) (f ((j - 1) / 2)) := (tot _ _).resolve_right hlt
  refine ⟨fun k hk0 hk hne => ?_, fun hp0 k hk0 hk he => ?_⟩
  · unfold swp
    by_cases e1 : k = j
    · subst e1
      rw [if_pos rfl, if_neg (by omega), if_pos rfl]; exact hle
    · rw [if_neg hne, if_neg e1]
      by_cases e2 : (k - 1) / 2 = (j - 1) / 2
      · rw [if_pos e2]
        have := h.rest k hk0 hk e1
        rw [e2] at this
        exact tr hle this
      · rw [if_neg e2]
        by_cases e3 : (k - 1) / 2 = j
        · rw [if_pos e3]; exact h.over h0 k hk0 hk e3
        · rw [if_neg e3]; exact h.rest k hk0 hk e1
  · unfold swp
    rw [if_neg (by omega), if_neg (by omega)]
    have hpp := h.rest ((j - 1) / 2) hp0 (by omega) (by omega)
    rw [if_neg (by omega)]
    by_cases e1 : k = j
    · rw [if_pos e1]; exact hpp
    · rw [if_neg e1]
      have := h.rest k hk0 hk e1
      rw [he] at this
      exact tr hpp this
theorem up_done {le : α → α → Prop} {f : Nat → α} {n j : Nat} (h : UpInv le f n j) (hd : j = 0 ∨ le (f ((j - 1) / 2)) (f j)) : IsHeap le f n := fun k h0 hk => by
  by_cases e : k = j
  · subst e
    rcases hd with hd | hd
    · omega
    · exact hd
  · exact h.rest k h0 hk e
theorem down_start {le : α → α → Prop} {f g : Nat → α} {n : Nat} (h : IsHeap le f (n + 1)) (hg : ∀ k, 0 < k → k < n → g k = f k) : DownInv le g n 0 := by
  refine ⟨fun k h0 hk hne => ?_, fun h0 => by omega⟩
  rw [hg _ (by omega) (by omega), hg _ (by omega) (by omega)]; exact h k h0 (by omega)
theorem down_step {le : α → α → Prop} (tot : ∀ a b, le a b ∨ le b a) {f : Nat → α} {n i c : Nat} (h : DownInv le f n i) (hc : c = 2 * i + 1 ∨ c = 2 * i + 2) (hcn : c < n) (hmin : ∀ d, d < n → (d = 2 * i + 1 ∨ d = 2 * i + 2) → le (f c) (f d)) (hlt : ¬ le (f i) (f c)) : DownInv le (swp f i c) n c := by
  have hle : le (f c) (f i) := (tot _ _).resolve_right hlt
  refine ⟨fun k hk0 hk hne => ?_, fun hp0 k hk0 hk he => ?_⟩
  · unfold swp
    by_cases e1 : (k - 1) / 2 = i
    · rw [if_pos e1]
      by_cases e2 : k = c
      · subst e2
        rw [if_neg (by omega), if_pos rfl]; exact hle
      · rw [if_neg (by omega), if_neg e2]
        exact hmin k hk (by omega)
    · rw [if_neg e1, if_neg (by omega)]
      by_cases e2 : k = i
      · subst e2
        rw [if_pos rfl]
        exact h.over hk0 c (by omega) hcn (by omega)
      · rw [if_neg e2]
        by_cases e3 : k = c
        · omega
        · rw [if_neg e3]; exact h.rest k hk0 hk e1
  · unfold swp
    have e : (c - 1) / 2 = i := by omega
    rw [if_pos e, if_neg (by omega), if_neg (by omega)]
    have := h.rest k hk0 hk (by omega)
    rw [he] at this; exact this
theorem down_done {le : α → α → Prop} {f : Nat → α} {n i : Nat} (h : DownInv le f n i) (hd : ∀ k, k < n → (k = 2 * i + 1 ∨ k = 2 * i + 2) → le (f i) (f k)) : IsHeap le f n := fun k h0 hk => by
  by_cases e : (k - 1) / 2 = i
  · rw [e]; exact hd k hk (by omega)
  · exact h.rest k h0 hk e
theorem heap_min {le : α → α → Prop} (tot : ∀ a b, le a b ∨ le b a) (tr : ∀ {a b c}, le a b → le b c → le a c) {f : Nat → α} {n : Nat} (h : IsHeap le f n) : ∀ k, k < n → le (f 0) (f k) := by
  intro k
  induction k using Nat.strongRecOn with
  | _ k ih =>
    intro hk
    by_cases e : k = 0
    · subst e; exact (tot _ _).elim id id
    · exact tr (ih ((k - 1) / 2) (by omega) (by omega)) (h k (by omega) hk)
/-- A list with two places turned round: it has the same members, as often. -/
theorem set_swap_perm (l : List α) (i j : Nat) (a b : α) (ha : l[i]? = some a) (hb : l[j]? = some b) : ((l.set i b).set j a).Perm l := by
  obtain ⟨hi, e1⟩ := List.getElem?_eq_some_iff.1 ha
  obtain ⟨hj, e2⟩ := List.getElem?_eq_some_iff.1 hb
  have h := Array.swap_perm (xs := l.toArray) (i := i) (j := j) (by simpa using hi) (by simpa using hj)
  have e : (l.toArray.swap i j (by simpa using hi) (by simpa using hj)).toList = (l.set i b).set j a := by
    rw [Array.swap_def]
    simp [e1, e2]
  have h2 := h.toList
  rw [e] at h2
  exact h2
end Go.Proofs.YtamcclcbmenjdaaGreatDoor.Hp

/- A list of raw samples that came in. -/
namespace Go.Proofs.YtamcclcbmenjdaaGreatDoor
open Go.RowKit Go.Lib Go.ChangeShapes Go.WideShapes

theorem cellsIntR : Tryz.prog.cellsOf 3 = 1 := by kernel_rfl
theorem cellsU64R : Tryz.prog.cellsOf 32 = 1 := by kernel_rfl
theorem cellsRaw : Tryz.prog.cellsOf 91 = 3 := by kernel_rfl
theorem wf_i64 {n : Int} (h : (Lit.int .i64 n).wf = true) : -9223372036854775808 ≤ n ∧ n ≤ 9223372036854775807 := by
  simp [Lit.wf, IntKind.min, IntKind.max, IntKind.signed, IntKind.bits] at h
  omega
theorem wf_u64 {n : Int} (h : (Lit.int .u64 n).wf = true) : 0 ≤ n ∧ n ≤ 18446744073709551615 := by
  simp [Lit.wf, IntKind.min, IntKind.max, IntKind.signed, IntKind.bits] at h
  omega
/-- A list of raw samples that came in. -/
theorem raws_of {H : Type} {enc : TypeId × Value → H} {W : World} {a0 : Option Addr} {len cap : Nat} {d : DataW H} {ps : List MemPlace} (h : DataW.Trod enc Tryz.prog W 0 (fun _ => true) true 45 (.slice a0 len cap) d ps) :
    ∃ raws, RawsAt W W.heap.size (.slice a0 len cap) raws ∧ ((d = .nil ∧ raws.length = 0) ∨ ∃ elems spare, d = .slice elems spare ∧ raws.length = elems.length) := by
  obtain ⟨fuel, hf⟩ := h
  have hf' : DataW.trod enc Tryz.prog W 0 (fun _ => true) true fuel 45 [.slice a0 len cap] = some (d, ps) := hf
  rcases Go.Deep.open_slice Tryz.underlying45 hf' with ⟨hcs, hx⟩ | ⟨a, len', cap', m, n, D, Pl, hcs, hb, hl, hm, hmm, hx, hel⟩
  · cases hcs
    cases hx
    exact ⟨[], ⟨none, 0, rfl, (fun x hx => by cases hx), .inl rfl⟩, .inl ⟨rfl, rfl⟩⟩
  · cases hcs
    simp only [if_true] at hmm
    subst hmm
    have hd : d = .slice ((List.range len).map D) ((List.range (m - len)).map fun j => D (len + j)) := congrArg Prod.fst hx
    rw [cellsRaw] at hel
    have each : ∀ i, i < len → ∃ x : Int × Int × Nat, W.cell? (a.add (i * 3)) = some (.int .i64 x.1) ∧ W.cell? ((a.add (i * 3)).add 1) = some (.int .i64 x.2.1) ∧ W.cell? ((a.add (i * 3)).add 2) = some (.int .u64 (x.2.2 : Int)) ∧
        -9223372036854775808 ≤ x.1 ∧ x.1 ≤ 9223372036854775807 ∧ -9223372036854775808 ≤ x.2.1 ∧ x.2.1 ≤ 9223372036854775807 ∧ x.2.2 ≤ 18446744073709551615 := by
      intro i hi
      obtain ⟨cs', h1, h2⟩ := hel i (by omega)
      obtain ⟨_, hlen, hcell⟩ := World.cells?_some h1
      obtain ⟨y0, y1, y2, k, _, _, g0, g1, g2⟩ := Go.Deep.trod_struct3 Tryz.underlying91 h2
      simp only [cellsIntR, cellsU64R] at g0 g1 g2
      obtain ⟨m0, e0, _, w0⟩ := DataW.trod_int Tryz.underlying3 g0
      obtain ⟨m1, e1, _, w1⟩ := DataW.trod_int Tryz.underlying3 g1
      obtain ⟨m2, e2, _, w2⟩ := DataW.trod_int Tryz.underlying32 g2
      have b0 := wf_i64 w0
      have b1 := wf_i64 w1
      have b2 := wf_u64 w2
      match cs', hlen, hcell, e0, e1, e2 with
      | [c0, c1, c2], _, hcell, e0, e1, e2 =>
        simp at e0 e1 e2
        subst e0 e1 e2
        have q0 := hcell 0 (by omega)
        have q1 := hcell 1 (by omega)
        have q2 := hcell 2 (by omega)
        have z0 : (a.add (i * 3)).add 0 = a.add (i * 3) := by unfold Addr.add; simp
        rw [z0] at q0
        refine ⟨(m0, m1, m2.toNat), q0, q1, ?_, b0.1, b0.2, b1.1, b1.2, by show m2.toNat ≤ _; omega⟩
        rw [q2]
        show some (Value.int .u64 m2) = some (.int .u64 (m2.toNat : Int))
        rw [Int.toNat_of_nonneg b2.1]
    obtain ⟨F, hF⟩ := Go.Deep.choose_lt each
    refine ⟨(List.range len).map F, ⟨some a, m, by simp, fun x hx => ?_, ?_⟩, .inr ⟨_, _, hd, by simp⟩⟩
    · obtain ⟨i, hi, rfl⟩ := List.mem_map.1 hx
      exact (hF i (List.mem_range.1 hi)).2.2.2
    · by_cases h0 : len = 0
      · subst h0; exact .inl rfl
      · obtain ⟨b, o, spot⟩ := a
        have hs : spot = none := by
          have := (hF 0 (by omega)).1
          simpa [Addr.add] using World.cell?_spot this
        subst hs
        refine .inr ⟨b, o, rfl, World.block_lt_of_cell? W _ (hF 0 (by omega)).1, fun i x hx => ?_⟩
        have hi : i < len := by have := (List.getElem?_eq_some_iff.1 hx).1; simpa using this
        have e : x = F i := by
          rw [List.getElem?_map, List.getElem?_range hi] at hx
          exact (Option.some.inj hx).symm
        subst e
        have hh := hF i hi
        rw [addr_add, addr_add, addr_add] at hh
        exact ⟨hh.1, hh.2.1, hh.2.2.1⟩
theorem small_of {bs : List Ser} (h : LimitsOk bs) : Small bs := by
  have hg : ∀ s ∈ bs, s.1.length ≤ 4 ∧ s.2.length ≤ 40 := fun s hs => by
    obtain ⟨i, hi, e⟩ := List.mem_iff_getElem.1 hs
    exact h.1 i s hi (by rw [List.getElem?_eq_getElem hi, e])
  exact ⟨by have := h.2; omega, fun s hs => by have := (hg s hs).1; omega, fun s hs => by have := (hg s hs).2; omega⟩
theorem Tryz.own : ownKnob Tryz.prog.godebug = none := by kernel_rfl
theorem Tryz.laidOut : laidOutB Tryz.prog = true := by kernel_rfl
theorem Tryz.bytesRaw : Tryz.prog.bytesOf 91 = 24 := by kernel_rfl
theorem Tryz.rawReads : Tryz.prog.readableRec 45 = true := by kernel_rfl
theorem Tryz.rawType : 45 < Tryz.prog.types.size := of_decide_eq_true (by kernel_rfl)
end Go.Proofs.YtamcclcbmenjdaaGreatDoor

/- What the given rows' conditions mean in memory: the tables, a list of raw samples; and packed. -/
namespace Go.Proofs.YtamcclcbmenjdaaGreatDoor
open Go.RowKit Go.Lib Go.ChangeShapes Go.WideShapes

theorem gDebType : (Tryz.prog.globals[2]?).map (·.type) = some 284 := by kernel_rfl
theorem gStepType : (Tryz.prog.globals[0]?).map (·.type) = some 244 := by kernel_rfl
theorem cellsDeb : Tryz.prog.cellsOf 284 = 64 := by kernel_rfl
theorem cellsU8 : Tryz.prog.cellsOf 5 = 1 := by kernel_rfl
theorem cellsInt : Tryz.prog.cellsOf 3 = 1 := by kernel_rfl
theorem cellsU64 : Tryz.prog.cellsOf 32 = 1 := by kernel_rfl
theorem cellsRule : Tryz.prog.cellsOf 243 = 2 := by kernel_rfl
theorem rule_cells {H : Type} {enc : TypeId × Value → H} {w : World} {base fuel : Nat} {sp : Nat → Bool} {held : Bool} {cs : List Value} {a b : Int} {x : DataW H × List MemPlace}
    (h : DataW.trod enc Tryz.prog w base sp held fuel 243 cs = some x) (hx : x.1 = .agg [.lit (.int .i64 a), .lit (.int .u64 b)]) : cs = [.int .i64 a, .int .u64 b] := by
  obtain ⟨y0, y1, n, rfl, hl, h0, h1⟩ := trod_struct2 Tryz.underlying243 h
  rw [cellsRule] at hl
  simp only [cellsInt, cellsU64] at h0 h1
  obtain ⟨m0, e0, rfl, _⟩ := DataW.trod_int Tryz.underlying3 h0
  obtain ⟨m1, e1, rfl, _⟩ := DataW.trod_int Tryz.underlying32 h1
  simp only [DataW.agg.injEq, List.cons.injEq, DataW.lit.injEq, Lit.int.injEq, true_and, and_true] at hx
  obtain ⟨rfl, rfl⟩ := hx
  match cs, hl with
  | [c0, c1], _ =>
    simp at e0 e1
    rw [e0, e1]
theorem tabs_of {W : World} (h : laidMetH Tryz.prog Rows.readsRow.laid W) : Tabs W := by
  have h' : laidMet Tryz.prog Rows.readsRow.laid W := h
  obtain ⟨ps, ⟨g1, t1, cs1, fuel1, p1, q1, hg1, ht1, hvar1, hd1, ⟨g, t, cs, fuel, p, q, hg, ht, hvar, hd, _, _⟩, _⟩, _⟩ := h'
  have e1 : some g1 = some 2 := hg1.symm.trans (by kernel_rfl)
  obtain rfl := Option.some.inj e1
  obtain rfl := Option.some.inj (gDebType.symm.trans ht1)
  have e2 : some g = some 0 := hg.symm.trans (by kernel_rfl)
  obtain rfl := Option.some.inj e2
  obtain rfl := Option.some.inj (gStepType.symm.trans ht)
  have hz : cs1.toList = (Lib.deBruijn64tab.map fun (n : Nat) => (n : Int)).map fun z => Value.int .u8 z := Lib.cells_of_tab Tryz.underlying284 Tryz.underlying5 cellsU8 cellsDeb hd1
  have htz : TabAt 2 Lib.deBruijn64tab W := fun j hj => by
    rw [World.var?_cell hg1 hvar1 j, ← Array.getElem?_toList, hz]
    simp [List.getD, hj]
  obtain ⟨xs, m, _, hx, hcl, hxl, hel⟩ := DataW.trod_array Tryz.underlying244 hd
  have hx1 : (DataW.agg (xs.map (·.1)) : DataW Unit) = Rows.laid_choir_frame_stepRules := (congrArg Prod.fst hx).symm
  rw [cellsRule] at hel
  match xs, hxl, hx1, hel with
  | [x0, x1, x2, x3, x4], _, hx1, hel =>
    simp only [Rows.laid_choir_frame_stepRules, List.map_cons, List.map_nil, DataW.agg.injEq, List.cons.injEq, and_true] at hx1
    obtain ⟨d0, d1, d2, d3, d4⟩ := hx1
    have hc : ∀ i, W.cell? ⟨0, i, none⟩ = cs.toList[i]? := fun i => by rw [World.var?_cell hg hvar i]; simp
    have r0 := rule_cells (hel 0 (by omega)) d0
    have r1 := rule_cells (hel 1 (by omega)) d1
    have r2 := rule_cells (hel 2 (by omega)) d2
    have r3 := rule_cells (hel 3 (by omega)) d3
    have r4 := rule_cells (hel 4 (by omega)) d4
    have hp : ∀ (i : Nat) (a b : Value), (cs.toList.drop (i * 2)).take 2 = [a, b] → cs.toList[i * 2]? = some a ∧ cs.toList[i * 2 + 1]? = some b := fun i a b e => by
      have e0 := congrArg (·[0]?) e
      have e1 := congrArg (·[1]?) e
      simp [List.getElem?_drop] at e0 e1
      exact ⟨by simpa using e0, by simpa using e1⟩
    have p0 := hp 0 _ _ r0
    have p1 := hp 1 _ _ r1
    have p2 := hp 2 _ _ r2
    have p3 := hp 3 _ _ r3
    have p4 := hp 4 _ _ r4
    exact ⟨(hc 0).trans p0.1, (hc 1).trans p0.2, (hc 2).trans p1.1, (hc 3).trans p1.2, (hc 4).trans p2.1, (hc 5).trans p2.2, (hc 6).trans p3.1, (hc 7).trans p3.2, (hc 8).trans p4.1, (hc 9).trans p4.2, htz⟩

set_option maxHeartbeats 400000 in
theorem packed_any (B : Nat) (v : Value) (bs : List Ser) (w : World) (hS : BatchAt w B v bs) (hB : B ≤ w.heap.size) (hT : Tabs w) (h1 : BatchOk bs) (h2 : LimitsOk bs) :
    Calls Tryz.prog 15 #[v] w fun e w' => e = .returned (.tuple #[.string (BA (frameOf (payload bs))), .bool true]) ∧ Below w.heap.size w w' := by
  have C := hide (encode_any B v bs w hS hB hT (small_of h2))
  obtain ⟨va, vc, rfl, _⟩ := id hS
  have hne : (frameOf (payload bs)).isEmpty = false := by simp [frameOf, headOf]
  have HN := hide hne
  clear hS hT hne
  go_enter Tryz.func15, Tryz.ntmps15
  go_wp2_with fail
  refine C.out.mono ?_
  rintro e w1 ⟨⟨n, hn, rfl⟩, hb⟩
  have h0 : n = 0 := by
    rcases hn with ⟨_, h⟩ | ⟨_, _, h⟩ | ⟨h, _⟩
    · exact absurd h1 h
    · exact absurd h2 h
    · exact h
  subst h0
  have HB := hide hb
  simp only [if_true]
  clear hn hb C
  go_wp2
  go_ret2
  refine ⟨?_, HB.out⟩
  show Ending.returned (Value.tuple #[.string (BA (frameOf (payload bs))), .bool (!(frameOf (payload bs)).isEmpty)]) = _
  rw [HN.out]; rfl

/-- The tables' cells, and a heap with the tables laid in it: for the witness. -/
def stepCells : Array Value := #[.int .i64 0, .int .u64 0, .int .i64 7, .int .u64 63, .int .i64 9, .int .u64 255, .int .i64 12, .int .u64 2047, .int .i64 64, .int .u64 0]
def debCells : Array Value := #[.int .u8 0, .int .u8 1, .int .u8 56, .int .u8 2, .int .u8 57, .int .u8 49, .int .u8 28, .int .u8 3, .int .u8 61, .int .u8 58, .int .u8 42, .int .u8 50, .int .u8 38, .int .u8 29, .int .u8 17, .int .u8 4, .int .u8 62, .int .u8 47, .int .u8 59, .int .u8 36, .int .u8 45, .int .u8 43, .int .u8 51, .int .u8 22, .int .u8 53, .int .u8 39, .int .u8 33, .int .u8 30, .int .u8 24, .int .u8 18, .int .u8 12, .int .u8 5, .int .u8 63, .int .u8 55, .int .u8 48, .int .u8 27, .int .u8 60, .int .u8 41, .int .u8 37, .int .u8 16, .int .u8 46, .int .u8 35, .int .u8 44, .int .u8 21, .int .u8 52, .int .u8 32, .int .u8 23, .int .u8 11, .int .u8 54, .int .u8 26, .int .u8 40, .int .u8 15, .int .u8 34, .int .u8 20, .int .u8 31, .int .u8 10, .int .u8 25, .int .u8 14, .int .u8 19, .int .u8 9, .int .u8 13, .int .u8 8, .int .u8 7, .int .u8 6]
def layTabs (h : Array Obj) : Array Obj := (h.modify 0 fun
    | .cells _ t frozen => .cells stepCells t frozen
    | o => o).modify 2 fun
    | .cells _ t frozen => .cells debCells t frozen
    | o => o
end Go.Proofs.YtamcclcbmenjdaaGreatDoor

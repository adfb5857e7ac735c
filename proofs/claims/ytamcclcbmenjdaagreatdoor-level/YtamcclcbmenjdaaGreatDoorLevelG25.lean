/- 'choirkeep.Level', for any list of steps (100 of them are done): when all are up, nothing is under way, and each has told each other one, all have the same, and compacted logs are the same bytes. The first form's statement and its card: no condition beside the row's own. -/
import Derived.Test.YtamcclcbmenjdaaGreatDoorLevelG24
import Derived.Test.YtamcclcbmenjdaaGreatDoorLevelG7
import Derived.Test.YtamcclcbmenjdaaGreatDoorLevelG1
import Derived.Deep.AppendLies
/- join's heap of rests (of samples): its five methods. -/
namespace Go.Proofs.YtamcclcbmenjdaaGreatDoor
open Go.RowKit Go.Lib

theorem methS_push (p : Option Addr) (W : World) : (method 398 229 (.pointer p) "Push").run Tryz.prog W = .ok (234, .pointer p) W := by kernel_rfl
theorem methS_pop (p : Option Addr) (W : World) : (method 398 229 (.pointer p) "Pop").run Tryz.prog W = .ok (233, .pointer p) W := by kernel_rfl
theorem methS_len (p : Option Addr) (W : World) : (method 398 229 (.pointer p) "Len").run Tryz.prog W = .ok (162, .pointer p) W := by kernel_rfl
theorem methS_less (p : Option Addr) (W : World) : (method 398 229 (.pointer p) "Less").run Tryz.prog W = .ok (232, .pointer p) W := by kernel_rfl
theorem methS_swap (p : Option Addr) (W : World) : (method 398 229 (.pointer p) "Swap").run Tryz.prog W = .ok (235, .pointer p) W := by kernel_rfl
theorem Tryz.infoRowS : (Tryz.prog.info? 35).map (fun i => (i.zero, i.size, i.bytes)) = some (some (.slice none 0 0), 1, 24) := by kernel_rfl

/-- A heap of rests in memory: the struct, and the row of slices. -/
structure RstS (w0 : World) (K : Nat → Obj → Prop) (W : World) (hb : Nat) (lv : Value) (vs : List Value) : Prop where
  below : Below w0.heap.size w0 W
  base : w0.heap.size ≤ hb
  lt : hb < W.heap.size
  c0 : W.cell? ⟨hb, 0, none⟩ = some lv
  c1 : W.cell? ⟨hb, 1, none⟩ = some (.func (.func 161) #[] #[])
  f0 : W.frozen? ⟨hb, 0, none⟩ = false
  own : W.ownsRow w0.heap.size 35 1 lv vs.length vs
  ne : lv.ownBlock ≠ some hb
  kp : ∀ k o, K k o → W.heap[k]? = some o ∧ k ≠ hb ∧ lv.ownBlock ≠ some k
/-- The lists that the slices are. -/
structure ListsS (w0 : World) (vs : List Value) (ls : List (List (Int × Nat))) : Prop where
  len : vs.length = ls.length
  each : ∀ (i : Nat) (v : Value) (l : List (Int × Nat)), vs[i]? = some v → ls[i]? = some l → SamplesAt w0 w0.heap.size v l ∧ l ≠ []
theorem lt_of_heapS {W : World} {k : Nat} {o : Obj} (h : W.heap[k]? = some o) : k < W.heap.size := (Array.getElem?_eq_some_iff.1 h).1
/-- Blocks of K may change, others stay. -/
theorem RstS.move {w0 : World} {K K' : Nat → Obj → Prop} {W W' : World} {hb : Nat} {lv : Value} {vs : List Value} (h : RstS w0 K W hb lv vs) (hs : W.heap.size ≤ W'.heap.size) (hk : ∀ k, k < W.heap.size → (∀ o, ¬ K k o) → W'.heap[k]? = W.heap[k]?) (hK : ∀ k o, K' k o → W'.heap[k]? = some o ∧ ((∃ o', K k o') ∨ W.heap.size ≤ k)) (hb0 : Below w0.heap.size w0 W') : RstS w0 K' W' hb lv vs := by
  have hkh := hk hb h.lt fun o ho => (h.kp hb o ho).2.1 rfl
  refine ⟨hb0, h.base, Nat.lt_of_lt_of_le h.lt hs, (World.cell?_of_block (a := ⟨hb, 0, none⟩) hkh).trans h.c0, (World.cell?_of_block (a := ⟨hb, 1, none⟩) hkh).trans h.c1, (World.frozen?_of_block (a := ⟨hb, 0, none⟩) hkh).trans h.f0,
    own_kept h.own fun k e => hk k (World.ownsRow.lt h.own k e).2 fun o ho => (h.kp k o ho).2.2 e, h.ne, fun k o ho => ?_⟩
  obtain ⟨h1, h2⟩ := hK k o ho
  refine ⟨h1, ?_⟩
  rcases h2 with ⟨o', h2⟩ | h2
  · exact (h.kp k o' h2).2
  · exact ⟨fun e => by have := h.lt; omega, fun e => by have := (World.ownsRow.lt h.own k e).2; omega⟩
theorem RstS.kept {w0 : World} {K : Nat → Obj → Prop} {W W' : World} {hb : Nat} {lv : Value} {vs : List Value} (h : RstS w0 K W hb lv vs) (hbl : Below W.heap.size W W') : RstS w0 K W' hb lv vs := by
  have hk := hbl.block hb h.lt
  exact ⟨h.below.trans (hbl.mono h.below.size), h.base, Nat.lt_of_lt_of_le h.lt hbl.size, (World.cell?_of_block (a := ⟨hb, 0, none⟩) hk).trans h.c0, (World.cell?_of_block (a := ⟨hb, 1, none⟩) hk).trans h.c1, (World.frozen?_of_block (a := ⟨hb, 0, none⟩) hk).trans h.f0,
    own_kept h.own fun k e => hbl.block k (World.ownsRow.lt h.own k e).2, h.ne, fun k o hk => ⟨(hbl.block k (lt_of_heapS (h.kp k o hk).1)).trans (h.kp k o hk).1, (h.kp k o hk).2⟩⟩
theorem RstS.shape {w0 : World} {K : Nat → Obj → Prop} {W : World} {hb : Nat} {lv : Value} {vs : List Value} (h : RstS w0 K W hb lv vs) : ∃ a c, lv = .slice a vs.length c := own_shape h.own
theorem RstS.get {w0 : World} {K : Nat → Obj → Prop} {W : World} {hb : Nat} {lv : Value} {vs : List Value} (h : RstS w0 K W hb lv vs) {i : Nat} {v : Value} (hv : vs[i]? = some v) : ∃ g c, lv = .slice (some ⟨g, 0, none⟩) vs.length c ∧ W.cell? ⟨g, i, none⟩ = some v ∧ W.frozen? ⟨g, i, none⟩ = false ∧ w0.heap.size ≤ g ∧ g ≠ hb ∧ g < W.heap.size := by
  have hi := (List.getElem?_eq_some_iff.1 hv).1
  rcases h.own.2 with ⟨rfl, h0⟩ | ⟨g, cap, cur, rfl, hg, hh, hc, hcm, hcs, ht⟩
  · omega
  · have hown := h.own
    refine ⟨g, cap, rfl, own_cell hown hv, ?_, hg, fun e => h.ne (by rw [e]; rfl), (World.ownsRow.lt hown g rfl).2⟩
    simp [World.frozen?, hh]

set_option maxRecDepth 100000 in
set_option maxHeartbeats 400000 in
theorem lenS_any {w0 : World} {K : Nat → Obj → Prop} {hb : Nat} {lv : Value} {vs : List Value} (W : World) (h : RstS w0 K W hb lv vs) :
    Calls Tryz.prog 162 #[.pointer (some ⟨hb, 0, none⟩)] W fun e w' => e = .returned (.int .i64 vs.length) ∧ w' = W := by
  obtain ⟨a, c, rfl⟩ := h.shape
  have c0 := h.c0
  clear h
  go_enter Tryz.func162, Tryz.ntmps162
  go_wp2
  go_ret
  exact ⟨rfl, rfl⟩

set_option maxRecDepth 100000 in
set_option maxHeartbeats 1000000 in
theorem lessS_any {w0 : World} {K : Nat → Obj → Prop} {hb : Nat} {lv : Value} {vs : List Value} {ls : List (List (Int × Nat))} (W : World) (h : RstS w0 K W hb lv vs) (hl : ListsS w0 vs ls) (hsm : ∀ l ∈ ls, ∀ x ∈ l, SmS x) (i j : Nat) {l m : List (Int × Nat)} {x y : (Int × Nat)} {r s : List (Int × Nat)} (hi : ls[i]? = some l) (hj : ls[j]? = some m) (hx : l = x :: r) (hy : m = y :: s) :
    Calls Tryz.prog 232 #[.pointer (some ⟨hb, 0, none⟩), .int .i64 i, .int .i64 j] W fun e w' => e = .returned (.bool (decide (cmpT x y < 0))) ∧ Below W.heap.size W w' := by
  have hil : i < vs.length := by rw [hl.len]; exact (List.getElem?_eq_some_iff.1 hi).1
  have hjl : j < vs.length := by rw [hl.len]; exact (List.getElem?_eq_some_iff.1 hj).1
  obtain ⟨v, hv⟩ : ∃ v, vs[i]? = some v := ⟨_, List.getElem?_eq_getElem hil⟩
  obtain ⟨u, hu⟩ : ∃ u, vs[j]? = some u := ⟨_, List.getElem?_eq_getElem hjl⟩
  obtain ⟨g, c, rfl, g1, _, hg0, hgn, hgl⟩ := h.get hv
  obtain ⟨g', c', e, g2, _, _⟩ := h.get hu
  cases e
  have hA := (hl.each i v l hv hi).1
  have hB := (hl.each j u m hu hj).1
  subst hx hy
  obtain ⟨b1, o1, k1, a0, a1, rfl, hb1, p0, p1, hE1⟩ := hA.head
  obtain ⟨b2, o2, k2, d0, d1, rfl, hb2, q0, q1, hE2⟩ := hB.head
  have c0 := h.c0
  have c1 := h.c1
  have hbl := h.below
  have hs := hbl.size
  have hlt := h.lt
  have m0 := (hbl.cell (p := ⟨b1, o1, none⟩) hb1).trans p0
  have m1 := (hbl.cell (p := ⟨b1, o1 + 1, none⟩) hb1).trans p1
  have t0 := (hbl.cell (p := ⟨b2, o2, none⟩) hb2).trans q0
  have t1 := (hbl.cell (p := ⟨b2, o2 + 1, none⟩) hb2).trans q1
  have C : Hid (∀ W2 : World, W2.heap = W.heap → Calls Tryz.prog 161 #[.agg #[a0, a1], .agg #[d0, d1]] W2 fun e w' => e = .returned (.int .i64 (cmpT x y)) ∧ Below W.heap.size W2 w') := fun W2 hW2 => by
    have hh := cmpS_any x y a0 a1 d0 d1 w0 W2 hE1 hE2 (fun k hk => by rw [hW2]; exact hbl.block k hk) (by rw [hW2]; exact hs) (hsm _ (List.mem_of_getElem? hi) x (by simp)) (hsm _ (List.mem_of_getElem? hj) y (by simp))
    rw [hW2] at hh; exact hh
  obtain ⟨rfl, rfl⟩ := id hE1
  obtain ⟨rfl, rfl⟩ := id hE2
  have i0 : (0 : Int) ≤ (i : Int) := by omega
  have i1 : (i : Int) < (vs.length : Int) := by omega
  have j0 : (0 : Int) ≤ (j : Int) := by omega
  have j1 : (j : Int) < (vs.length : Int) := by omega
  clear h hl hA hB hi hj hv hu hsm hbl hE1 hE2
  go_enter Tryz.func232, Tryz.ntmps232
  go_wp2
  as_aux_lemma =>
    go_region_held3 (fun w' => w'.cell? ⟨hb, 0, none⟩ = some (.slice (some ⟨g, 0, none⟩) vs.length c) ∧ w'.cell? ⟨hb, 1, none⟩ = some (.func (.func 161) #[] #[]) ∧ w'.cell? ⟨g, i, none⟩ = some (.slice (some ⟨b1, o1, none⟩) (r.length + 1) k1) ∧ w'.cell? ⟨g, j, none⟩ = some (.slice (some ⟨b2, o2, none⟩) (s.length + 1) k2) ∧ w'.cell? ⟨b1, o1, none⟩ = some (.int .i64 x.1) ∧ w'.cell? ⟨b1, o1 + 1, none⟩ = some (.int .u64 x.2) ∧ w'.cell? ⟨b2, o2, none⟩ = some (.int .i64 y.1) ∧ w'.cell? ⟨b2, o2 + 1, none⟩ = some (.int .u64 y.2)) (go_keep) (first | (go_at_call 161; refine (C.out _ (by exact rfl)).mono ?_; rintro e w2 ⟨rfl, hb3⟩; have y0 := (hb3.cell (p := ⟨hb, 0, none⟩) hlt).trans c0; have y1 := (hb3.cell (p := ⟨hb, 1, none⟩) hlt).trans c1; have y2 := (hb3.cell (p := ⟨g, i, none⟩) hgl).trans g1; have y3 := (hb3.cell (p := ⟨g, j, none⟩) hgl).trans g2; have y4 := (hb3.cell (p := ⟨b1, o1, none⟩) (by show b1 < W.heap.size; omega)).trans m0; have y5 := (hb3.cell (p := ⟨b1, o1 + 1, none⟩) (by show b1 < W.heap.size; omega)).trans m1; have y6 := (hb3.cell (p := ⟨b2, o2, none⟩) (by show b2 < W.heap.size; omega)).trans t0; have y7 := (hb3.cell (p := ⟨b2, o2 + 1, none⟩) (by show b2 < W.heap.size; omega)).trans t1))
    all_goals
      have HB := hide ((Below.refl W.heap.size W).drew.trans hb3)
      clear hb3 y0 y1 y2 y3 y4 y5 y6 y7
      go_wp2
      go_ret
      exact ⟨rfl, HB.out⟩

/-- A cell of the row written over. -/
theorem RstS.set {w0 : World} {K : Nat → Obj → Prop} {W : World} {hb g c : Nat} {vs : List Value} (h : RstS w0 K W hb (.slice (some ⟨g, 0, none⟩) vs.length c) vs) {i : Nat} (_ : i < vs.length) (v : Value) : RstS w0 K (W.setCell ⟨g, i, none⟩ v) hb (.slice (some ⟨g, 0, none⟩) vs.length c) (vs.set i v) := by
  have hgn : g ≠ hb := fun e => h.ne (by rw [e]; rfl)
  rcases h.own.2 with ⟨h0, _⟩ | ⟨g', cap, cur, he, hg, hh, hc, hcm, hcs, ht⟩
  · cases h0
  · cases he
    have hk : hb ≠ g := fun e => hgn e.symm
    have hkb := Below.heap_setCell W ⟨g, i, none⟩ v hb hk
    refine ⟨h.below.setCell hg _, h.base, by simpa using h.lt, (World.cell?_of_block (a := ⟨hb, 0, none⟩) hkb).trans h.c0, (World.cell?_of_block (a := ⟨hb, 1, none⟩) hkb).trans h.c1, (World.frozen?_of_block (a := ⟨hb, 0, none⟩) hkb).trans h.f0, ?_, h.ne, fun k o ho => ⟨(Below.heap_setCell W ⟨g, i, none⟩ v k (fun e => (h.kp k o ho).2.2 (by rw [e]; rfl))).trans (h.kp k o ho).1, (h.kp k o ho).2⟩⟩
    rw [List.length_set]
    refine ⟨by simp, .inr ⟨g, c, cur.setIfInBounds i v, rfl, hg, ?_, hc, hcm, by simpa using hcs, ?_⟩⟩
    · rw [setCell_eq_setRow W g i cur 35 (0, 0) v hh]
      exact setRow_heap W g cur _ 35 (0, 0) hh
    · rw [Nat.mul_one] at ht ⊢
      rw [Array.toList_setIfInBounds, List.take_set, ht]

set_option maxRecDepth 100000 in
set_option maxHeartbeats 1000000 in
theorem swapS_any {w0 : World} {K : Nat → Obj → Prop} {hb : Nat} {lv : Value} {vs : List Value} (W : World) (h : RstS w0 K W hb lv vs) (i j : Nat) {v u : Value} (hi : vs[i]? = some v) (hj : vs[j]? = some u) (hsv : ∃ a n c, v = .slice a n c) (hsu : ∃ a n c, u = .slice a n c) :
    Calls Tryz.prog 235 #[.pointer (some ⟨hb, 0, none⟩), .int .i64 i, .int .i64 j] W fun e w' => e = .returned (.tuple #[]) ∧ RstS w0 K w' hb lv ((vs.set i u).set j v) := by
  have hil := (List.getElem?_eq_some_iff.1 hi).1
  have hjl := (List.getElem?_eq_some_iff.1 hj).1
  obtain ⟨g, c, rfl, g1, gf1, hg0, hgn, hgl⟩ := h.get hi
  obtain ⟨g', c', e, g2, gf2, _⟩ := h.get hj
  cases e
  obtain ⟨a1, n1, k1, rfl⟩ := hsv
  obtain ⟨a2, n2, k2, rfl⟩ := hsu
  have c0 := h.c0
  have h2 := (h.set hil (.slice a2 n2 k2))
  have h3 : RstS w0 K ((W.setCell ⟨g, i, none⟩ (.slice a2 n2 k2)).setCell ⟨g, j, none⟩ (.slice a1 n1 k1)) hb (.slice (some ⟨g, 0, none⟩) vs.length c) ((vs.set i (.slice a2 n2 k2)).set j (.slice a1 n1 k1)) := by
    have e : (vs.set i (.slice a2 n2 k2)).length = vs.length := by simp
    have h4 := RstS.set (vs := vs.set i (.slice a2 n2 k2)) (by rw [e]; exact h2) (i := j) (by rw [e]; exact hjl) (.slice a1 n1 k1)
    rw [e] at h4; exact h4
  have hx : (W.setCell ⟨g, i, none⟩ (.slice a2 n2 k2)).cell? ⟨g, j, none⟩ = some (.slice a2 n2 k2) := by
    by_cases e : i = j
    · subst e; exact World.cell?_setCell_same _ _ _ g1
    · rw [World.cell?_setCell_other _ _ _ _ (fun y => e (congrArg Addr.off y))]; exact g2
  have H3 := hide h3
  have i0 : (0 : Int) ≤ (i : Int) := by omega
  have i1 : (i : Int) < (vs.length : Int) := by omega
  have j0 : (0 : Int) ≤ (j : Int) := by omega
  have j1 : (j : Int) < (vs.length : Int) := by omega
  have hne : ¬ hb = g := fun e => hgn e.symm
  clear h h2 h3 hi hj
  go_enter Tryz.func235, Tryz.ntmps235
  go_region
  all_goals
    go_wp2
    go_end0
    exact ⟨rfl, H3.out.kept ((Below.refl _ _).drew)⟩
end Go.Proofs.YtamcclcbmenjdaaGreatDoor

/- What both instances of join's heap use. -/
namespace Go.Proofs.YtamcclcbmenjdaaGreatDoor
open Go.RowKit Go.Lib

/-- One element fewer. -/
theorem own_less {base e : Nat} {w : World} {g c : Nat} {xs : List Value} {x : Value} (h : w.ownsRow base e 1 (.slice (some ⟨g, 0, none⟩) (xs ++ [x]).length c) (xs ++ [x]).length (xs ++ [x])) : w.ownsRow base e 1 (.slice (some ⟨g, 0, none⟩) xs.length c) xs.length xs := by
  refine ⟨by simp, ?_⟩
  rcases h.2 with ⟨h0, _⟩ | ⟨g', cap, cur, he, hg, hh, hc, hcm, hcs, ht⟩
  · cases h0
  · cases he
    refine .inr ⟨g, c, cur, rfl, hg, hh, by simp at hc; omega, hcm, hcs, ?_⟩
    have := congrArg (List.take (xs.length * 1)) ht
    rw [List.take_take, Nat.min_eq_left (by simp), List.take_append_of_le_length (by simp)] at this
    simpa using this
theorem take_last {α : Type} {l : List α} {n : Nat} {x : α} (h : l[n]? = some x) (hn : l.length = n + 1) : l = l.take n ++ [x] := by
  have := take_more l n x h
  rw [← this, ← hn, List.take_length]
theorem restOf_mem {α : Type} {t : List α} {ls : List (List α)} {k : List α} (h : k ∈ restOf t ls) : k = t ∨ k ∈ ls := by
  unfold restOf at h; split at h
  · exact .inr h
  · exact List.mem_cons.1 h
theorem restOf_len {α : Type} (t : List α) (ls : List (List α)) : (restOf t ls).length ≤ ls.length + 1 := by
  unfold restOf; split <;> simp
theorem alloc_heap_new (w : World) (o : Obj) : (w.alloc o).heap[w.heap.size]? = some o := by rw [World.alloc]; simp
def sliceLen : Value → Nat
  | .slice _ n _ => n
  | _ => 0
theorem rest_drewN (w : World) (n : Nat) : Below w.heap.size w (w.drewN n) := ⟨rfl, rfl, rfl, Nat.le_refl _, fun _ _ => rfl⟩
/-- Those that are not empty. -/
def full {α : Type} (ls : List (List α)) : List (List α) := ls.filter fun l => !l.isEmpty
theorem full_flat {α : Type} (ls : List (List α)) : (full ls).flatten = ls.flatten := List.flatten_filter_not_isEmpty
theorem full_snoc {α : Type} (ls : List (List α)) (l : List α) : (restOf l (full ls)).Perm (full (ls ++ [l])) := by
  unfold full restOf
  rw [List.filter_append]
  cases l with
  | nil => simp
  | cons x t => simp only [reduceCtorEq, if_false]; exact List.perm_append_comm (l₁ := [x :: t])
theorem full_len {α : Type} (ls : List (List α)) : (full ls).length ≤ ls.length := List.length_filter_le _ _
theorem full_rests {α : Type} {c : α → α → Int} {ls : List (List α)} (h : ∀ l ∈ ls, l.Pairwise fun x y => c x y = -1) : Rests c (full ls) :=
  ⟨fun l hl => by have := (List.mem_filter.1 hl).2; intro e; subst e; simp at this, fun l hl => h l (List.mem_filter.1 hl).1⟩
end Go.Proofs.YtamcclcbmenjdaaGreatDoor

/- join's heap of rests (of samples): Push and Pop. -/
namespace Go.Proofs.YtamcclcbmenjdaaGreatDoor
open Go.RowKit Go.Lib

theorem assertS (v : Value) (W : World) : (Instr.typeAssert (.iface 35 v) 20 35 false).run Tryz.prog W = .ok v W := by kernel_rfl

set_option maxRecDepth 100000 in
set_option maxHeartbeats 1000000 in
theorem pushS_any {w0 : World} {K : Nat → Obj → Prop} {hb : Nat} {lv : Value} {vs : List Value} (W : World) (h : RstS w0 K W hb lv vs) (a : Option Addr) (n c : Nat) (hl : vs.length ≤ 1000000000000) :
    Calls Tryz.prog 234 #[.pointer (some ⟨hb, 0, none⟩), .iface 35 (.slice a n c)] W fun e w' => e = .returned (.tuple #[]) ∧ ∃ lv', RstS w0 K w' hb lv' (vs ++ [.slice a n c]) := by
  obtain ⟨i0, hi, hz0, hz1, hz2⟩ := info_parts Tryz.infoRowS
  obtain ⟨la, lc, rfl⟩ := h.shape
  have c0 := h.c0
  have f0 := h.f0
  have hlt := h.lt
  have hws := h.below.size
  have HR := hide h
  have hown := h.own
  have hta := assertS
  clear h
  go_enter Tryz.func234, Tryz.ntmps234
  go_region_law ((refine step_append_lies _ (by rfl) (.tmp 8) (.tmp 11) 26 (by rfl) w0.heap.size 35 i0 (.slice none 0 0) 1 24 Tryz.underlying26 hi hz0 hz1 hz2 rfl (by decide) (.slice la vs.length lc) vs.length vs (by rfl) (by first | exact (HR.out.own.alloc _) | exact hown.alloc _) ⟨W.heap.size, 0, none⟩ 1 1 [.slice a n c] (by rfl) rfl (by exact one_news _ _ _) (by intro u hu; simp at hu; subst hu; rfl) (by decide) (by unfold maxLen; omega) (by omega) (by simp; omega) (W.heap.size + 1) (by simp) ?_; intro g cap w1 hown1 hgrow hat hgl; have hk : w1.heap[hb]? = W.heap[hb]? := (hgrow.block hb (by simp; omega) (fun e => HR.out.ne e.symm)).trans (heap_alloc_old W _ hlt); have d0 := (World.cell?_of_block (a := ⟨hb, 0, none⟩) hk).trans c0; have e0 := (World.frozen?_of_block (a := ⟨hb, 0, none⟩) hk).trans f0))
  all_goals
    have HF : Hid (RstS w0 K (w1.setCell ⟨hb, 0, none⟩ (.slice (some ⟨g, 0, none⟩) (vs.length + 1) cap)) hb (.slice (some ⟨g, 0, none⟩) (vs.length + 1) cap) (vs ++ [.slice a n c])) := by
      have hbw : Below w0.heap.size w0 w1 := (HR.out.below.alloc hws (.cells #[.slice a n c] 35)).drew.grown hgrow (by show w0.heap.size ≤ (W.alloc _).heap.size; simp; omega) (fun k e => (World.ownsRow.lt HR.out.own k e).1)
      have hgb : g ≠ hb := by
        rcases hat with hat | hat
        · intro e; exact HR.out.ne (by rw [hat, e])
        · omega
      have hg0 : w0.heap.size ≤ g := by
        rcases hat with hat | hat
        · exact (World.ownsRow.lt HR.out.own g hat).1
        · omega
      have hlt1 : hb < w1.heap.size := by have := hgrow.size; simp at this; omega
      have c1 := (World.cell?_of_block (a := ⟨hb, 1, none⟩) hk).trans HR.out.c1
      refine ⟨hbw.setCell HR.out.base _, HR.out.base, by simpa using hlt1, World.cell?_setCell_same _ _ _ d0, ?_, by rw [World.frozen?_setCell]; exact e0, ?_, fun e => hgb (Option.some.inj e), fun k o ho => ?_⟩
      · rw [World.cell?_setCell_other _ _ _ _ (fun e => by have := congrArg Addr.off e; cases this)]; exact c1
      · have e2 : (vs ++ [Value.slice a n c]).length = vs.length + 1 := by simp
        rw [e2]
        exact own_kept hown1 fun k e => Below.heap_setCell _ _ _ k (by cases e; exact hgb)
      · obtain ⟨k1, k2, k3⟩ := HR.out.kp k o ho
        have klt := lt_of_heapS k1
        refine ⟨(Below.heap_setCell _ _ _ k k2).trans ((hgrow.block k (by simp; omega) (fun e => k3 e.symm)).trans ((heap_alloc_old W _ klt).trans k1)), k2, fun e => ?_⟩
        have e2 : g = k := Option.some.inj e
        rcases hat with hat | hat
        · exact k3 (by rw [hat, e2])
        · omega
    clear hown1 hgrow hat hgl hk d0 e0
    go_wp2
    go_end0
    exact ⟨rfl, _, HF.out.kept (Below.refl _ _)⟩


set_option maxRecDepth 100000 in
set_option maxHeartbeats 1000000 in
theorem popS_any {w0 : World} {K : Nat → Obj → Prop} {hb : Nat} {lv : Value} {vs : List Value} {a : Option Addr} {n c : Nat} (W : World) (h : RstS w0 K W hb lv (vs ++ [.slice a n c])) (hl : vs.length ≤ 1000000000000) :
    Calls Tryz.prog 233 #[.pointer (some ⟨hb, 0, none⟩)] W fun e w' => e = .returned (.iface 35 (.slice a n c)) ∧ ∃ lv', RstS w0 K w' hb lv' vs := by
  have hlast : (vs ++ [Value.slice a n c])[vs.length]? = some (.slice a n c) := by simp
  have hlen : (vs ++ [Value.slice a n c]).length = vs.length + 1 := by simp
  obtain ⟨g, lc, rfl, g1, gf1, hg0, hgn, hgl⟩ := h.get hlast
  have c0 := h.c0
  have f0 := h.f0
  have hcap : vs.length ≤ lc := by
    rcases h.own.2 with ⟨h0, _⟩ | ⟨g', cap, cur, he, _, _, hc, _⟩
    · cases h0
    · cases he; simp at hc; omega
  have HF : Hid (RstS w0 K (W.setCell ⟨hb, 0, none⟩ (.slice (some ⟨g, 0, none⟩) vs.length lc)) hb (.slice (some ⟨g, 0, none⟩) vs.length lc) vs) := by
    refine ⟨h.below.setCell h.base _, h.base, by simpa using h.lt, World.cell?_setCell_same _ _ _ c0, ?_, by rw [World.frozen?_setCell]; exact f0, ?_, fun e => hgn (Option.some.inj e), fun k o ho => ⟨(Below.heap_setCell _ _ _ k (h.kp k o ho).2.1).trans (h.kp k o ho).1, (h.kp k o ho).2⟩⟩
    · rw [World.cell?_setCell_other _ _ _ _ (fun e => by have := congrArg Addr.off e; cases this)]; exact h.c1
    · exact own_kept (own_less h.own) fun k e => Below.heap_setCell _ _ _ k (by cases e; exact hgn)
  rw [hlen] at c0
  have k1 : IntKind.i64.wrap ((vs.length : Int) + 1 - 1) = (vs.length : Int) := by rw [IntKind.wrap_i64]; omega
  clear h hlast hlen
  go_enter Tryz.func233, Tryz.ntmps233
  go_wp2
  go_ret
  exact ⟨rfl, _, HF.out⟩
end Go.Proofs.YtamcclcbmenjdaaGreatDoor

/- container/heap over join's rests (of samples): up, down, Push, Pop. -/
namespace Go.Proofs.YtamcclcbmenjdaaGreatDoor
open Go.RowKit Go.Lib

/-- The first element of list number k. -/
def hdS (ls : List (List (Int × Nat))) (k : Nat) : (Int × Nat) := (ls.getD k []).headD default
def leS (x y : (Int × Nat)) : Prop := cmpT x y ≤ 0
theorem leS_tot (x y : (Int × Nat)) : leS x y ∨ leS y x := cmpT_ok.tot x y
theorem leS_tr {x y z : (Int × Nat)} (h : leS x y) (g : leS y z) : leS x z := cmpT_ok.le_tr h g
theorem hdS_of {ls : List (List (Int × Nat))} {k : Nat} {x : (Int × Nat)} {r : List (Int × Nat)} (h : ls[k]? = some (x :: r)) : hdS ls k = x := by
  unfold hdS; rw [List.getD_eq_getElem?_getD, h]; rfl
theorem hdS_swap {ls : List (List (Int × Nat))} {i j : Nat} {l m : List (Int × Nat)} (hi : ls[i]? = some l) (hj : ls[j]? = some m) : hdS ((ls.set i m).set j l) = Hp.swp (hdS ls) i j := by
  funext k
  have h1 := (List.getElem?_eq_some_iff.1 hi).1
  have h2 := (List.getElem?_eq_some_iff.1 hj).1
  unfold Hp.swp hdS
  simp only [List.getD_eq_getElem?_getD]
  by_cases e2 : k = j
  · subst e2
    rw [List.getElem?_set_self (by simpa using h2)]
    by_cases e1 : k = i
    · subst e1; rw [if_pos rfl, hi]
    · rw [if_neg e1, if_pos rfl, hi]
  · rw [List.getElem?_set_ne (fun e => e2 e.symm)]
    by_cases e1 : k = i
    · subst e1; rw [List.getElem?_set_self h1, if_pos rfl, hj]
    · rw [List.getElem?_set_ne (fun e => e1 e.symm), if_neg e1, if_neg e2]
/-- A heap of rests, and the lists that are in it. -/
structure HsS (w0 : World) (K : Nat → Obj → Prop) (W : World) (hb n : Nat) (lv : Value) (vs : List Value) (ls : List (List (Int × Nat))) : Prop where
  rst : RstS w0 K W hb lv vs
  lists : ListsS w0 vs ls
  len : ls.length = n
theorem AtS_shape {w : World} {B : Nat} {v : Value} {l : List (Int × Nat)} (h : SamplesAt w B v l) : ∃ a n c, v = .slice a n c := by
  obtain ⟨a, c, rfl, _⟩ := h; exact ⟨_, _, _, rfl⟩
theorem HsS.kept {w0 : World} {K : Nat → Obj → Prop} {W W' : World} {hb n : Nat} {lv : Value} {vs : List Value} {ls : List (List (Int × Nat))} (h : HsS w0 K W hb n lv vs ls) (hb' : Below W.heap.size W W') : HsS w0 K W' hb n lv vs ls := ⟨h.rst.kept hb', h.lists, h.len⟩
theorem HsS.cons {w0 : World} {K : Nat → Obj → Prop} {W : World} {hb n : Nat} {lv : Value} {vs : List Value} {ls : List (List (Int × Nat))} (h : HsS w0 K W hb n lv vs ls) {i : Nat} (hi : i < n) : ∃ x r v, ls[i]? = some (x :: r) ∧ vs[i]? = some v ∧ (∃ a n c, v = .slice a n c) ∧ hdS ls i = x := by
  obtain ⟨l, hl⟩ : ∃ l, ls[i]? = some l := ⟨_, List.getElem?_eq_getElem (by rw [h.len]; exact hi)⟩
  obtain ⟨v, hv⟩ : ∃ v, vs[i]? = some v := ⟨_, List.getElem?_eq_getElem (by rw [h.lists.len, h.len]; exact hi)⟩
  obtain ⟨h1, h2⟩ := h.lists.each i v l hv hl
  cases l with
  | nil => exact absurd rfl h2
  | cons x r => exact ⟨x, r, v, hl, hv, AtS_shape h1, hdS_of hl⟩
theorem ListsS.swap {w0 : World} {vs : List Value} {ls : List (List (Int × Nat))} (h : ListsS w0 vs ls) {i j : Nat} {v u : Value} {l m : List (Int × Nat)} (hv : vs[i]? = some v) (hu : vs[j]? = some u) (hl : ls[i]? = some l) (hm : ls[j]? = some m) : ListsS w0 ((vs.set i u).set j v) ((ls.set i m).set j l) := by
  have v1 := (List.getElem?_eq_some_iff.1 hv).1
  have v2 := (List.getElem?_eq_some_iff.1 hu).1
  have l1 := (List.getElem?_eq_some_iff.1 hl).1
  have l2 := (List.getElem?_eq_some_iff.1 hm).1
  refine ⟨by simp [h.len], fun k p q hp hq => ?_⟩
  by_cases e2 : k = j
  · subst e2
    rw [List.getElem?_set_self (by simpa using v2)] at hp
    rw [List.getElem?_set_self (by simpa using l2)] at hq
    cases hp; cases hq
    exact h.each i v l hv hl
  · rw [List.getElem?_set_ne (fun e => e2 e.symm)] at hp hq
    by_cases e1 : k = i
    · subst e1
      rw [List.getElem?_set_self v1] at hp
      rw [List.getElem?_set_self l1] at hq
      cases hp; cases hq
      exact h.each j u m hu hm
    · rw [List.getElem?_set_ne (fun e => e1 e.symm)] at hp hq
      exact h.each k p q hp hq

set_option maxRecDepth 100000 in
set_option maxHeartbeats 1000000 in
theorem upS_any {w0 : World} {K : Nat → Obj → Prop} {hb n : Nat} {lv : Value} {vs : List Value} {ls : List (List (Int × Nat))} (W : World) (h : HsS w0 K W hb n lv vs ls) (hsm : ∀ l ∈ ls, ∀ x ∈ l, SmS x) (j : Nat) (hj : j < n) (hn : n ≤ 1000000000000) (hu : Hp.UpInv leS (hdS ls) n j) :
    Calls Tryz.prog 192 #[.iface 229 (.pointer (some ⟨hb, 0, none⟩)), .int .i64 j] W fun e w' => e = .returned (.tuple #[]) ∧ ∃ vs' ls', HsS w0 K w' hb n lv vs' ls' ∧ ls'.Perm ls ∧ Hp.IsHeap leS (hdS ls') n := by
  have m1 := methS_less
  have m2 := methS_swap
  have HSm := hide hsm
  have H0 := hide h
  have HU0 := hide hu
  clear h hsm hu
  go_enter Tryz.func192, Tryz.ntmps192
  go_wp2
  go_loopw [1, 4] (fun jv _ wr => ∃ (j : Nat) (vs : List Value) (ls' : List (List (Int × Nat))), j < n ∧ jv = .int .i64 j ∧ Hid (HsS w0 K wr hb n lv vs ls') ∧ Hid (ls'.Perm ls) ∧ Hid (Hp.UpInv leS (hdS ls') n j)) (fun jv _ _ => (intOf jv).toNat)
  case atStart => exact ⟨j, vs, ls, hj, rfl, H0.out, List.Perm.refl _, HU0.out⟩
  case round =>
    clear H0 HU0
    obtain ⟨j, vs', ls', hj, rfl, H, HP, HU⟩ := hrel
    cases j with
    | zero =>
      have HI := hide (Hp.up_done HU.out (.inl rfl))
      clear HU
      go_wp2
      go_end0
      exact ⟨rfl, vs', ls', H.out, HP.out, HI.out⟩
    | succ k =>
      obtain ⟨x, r, v, hl, hv, hsv, hx⟩ := H.out.cons hj
      obtain ⟨y, s, u, hm, hu, hsu, hy⟩ := H.out.cons (i := k / 2) (by omega)
      have CL : Hid (∀ (J I : Int), J = ((k + 1 : Nat) : Int) → I = ((k / 2 : Nat) : Int) → Calls Tryz.prog 232 #[.pointer (some ⟨hb, 0, none⟩), .int .i64 J, .int .i64 I] wr fun e w' => e = .returned (.bool (decide (cmpT x y < 0))) ∧ Below wr.heap.size wr w') := fun J I hJ hI => by
        subst hJ hI
        exact lessS_any wr H.out.rst H.out.lists (fun l hl x hx => HSm.out l (HP.out.mem_iff.1 hl) x hx) (k + 1) (k / 2) hl hm rfl rfl
      have CS : Hid (∀ (W2 : World) (I J : Int), Below wr.heap.size wr W2 → I = ((k / 2 : Nat) : Int) → J = ((k + 1 : Nat) : Int) → Calls Tryz.prog 235 #[.pointer (some ⟨hb, 0, none⟩), .int .i64 I, .int .i64 J] W2 fun e w' => e = .returned (.tuple #[]) ∧ RstS w0 K w' hb lv ((vs'.set (k / 2) v).set (k + 1) u)) := fun W2 I J hW hI hJ => by
        subst hI hJ
        exact swapS_any W2 (H.out.rst.kept hW) (k / 2) (k + 1) hu hv hsu hsv
      have k1 : ¬ (k : Int) / 2 = (k : Int) + 1 := by omega
      have k2 : ((k : Int) / 2 == (k : Int) + 1) = false := by simp; omega
      by_cases hc : cmpT x y < 0
      · have hnl : ¬ leS (hdS ls' ((k + 1 - 1) / 2)) (hdS ls' (k + 1)) := by
          rw [show (k + 1 - 1) / 2 = k / 2 by omega, hx, hy]
          unfold leS
          have := cmpT_ok.neg x y
          omega
        have hun := Hp.up_step leS_tot leS_tr HU.out hj (by omega) hnl
        rw [show (k + 1 - 1) / 2 = k / 2 by omega, ← hdS_swap hm hl] at hun
        have HUn := hide hun
        have HPn := hide ((Hp.set_swap_perm ls' (k / 2) (k + 1) _ _ hm hl).trans HP.out)
        have HLn := hide (H.out.lists.swap hu hv hm hl)
        have hlen : (((ls'.set (k / 2) (x :: r)).set (k + 1) (y :: s))).length = n := by simp [H.out.len]
        have HLen := hide hlen
        have hdt : decide (cmpT x y < 0) = true := decide_eq_true hc
        clear hun hnl HU HP hl hv hm hu hsv hsu hx hy hlen H
        go_wp2_with fail
        refine (CL.out _ _ (by omega) (by omega)).mono ?_
        rintro e w1 ⟨rfl, hb1⟩
        rw [hdt]
        have HB1 := hide hb1
        clear hb1 hc hdt CL
        go_wp2_with fail
        refine (CS.out _ _ _ HB1.out (by omega) (by omega)).mono ?_
        rintro e w2 ⟨rfl, hr2⟩
        have HR2 := hide hr2
        clear hr2 CS HB1
        go_wp2
        go_roundw
        case rel => exact ⟨k / 2, _, _, by omega, by go_num, ⟨HR2.out, HLn.out, HLen.out⟩, HPn.out, HUn.out⟩
        case measure => simp [intOf]; omega
      · have hle : leS (hdS ls' ((k + 1 - 1) / 2)) (hdS ls' (k + 1)) := by
          rw [show (k + 1 - 1) / 2 = k / 2 by omega, hx, hy]
          unfold leS
          have := cmpT_ok.neg x y
          omega
        have HI := hide (Hp.up_done HU.out (.inr hle))
        have hdf : decide (cmpT x y < 0) = false := decide_eq_false hc
        clear HU hl hv hm hu hsv hsu hx hy hle CS
        go_wp2_with fail
        refine (CL.out _ _ (by omega) (by omega)).mono ?_
        rintro e w1 ⟨rfl, hb1⟩
        rw [hdf]
        have HH := hide (H.out.kept hb1)
        clear hb1 hc hdf CL
        go_wp2
        go_end0
        exact ⟨rfl, vs', ls', HH.out, HP.out, HI.out⟩
end Go.Proofs.YtamcclcbmenjdaaGreatDoor

/- 'choirlaw.Joins', for any two lists of series of bulk at most 1048576: Join answers the document's join or error, either way round; what is handed in stays, what comes out is its owner's. The second form's statement: its only condition is the row's own bound on the arguments' bulk. -/
import Derived.Test.YtcidgfdiacehmaaJoinsuptoG17
import Derived.Test.YtcidgfdiacehmaaJoinsuptoG12
import Derived.Test.YtcidgfdiacehmaaJoinsuptoG1
/- join's heap of rests (of samples): its five methods. -/
namespace Go.Proofs.Ytcidgfdiacehmaa
open Go.RowKit Go.Lib

theorem methS_push (p : Option Addr) (W : World) : (method 234 96 (.pointer p) "Push").run Try.prog W = .ok (96, .pointer p) W := by kernel_rfl
theorem methS_pop (p : Option Addr) (W : World) : (method 234 96 (.pointer p) "Pop").run Try.prog W = .ok (95, .pointer p) W := by kernel_rfl
theorem methS_len (p : Option Addr) (W : World) : (method 234 96 (.pointer p) "Len").run Try.prog W = .ok (58, .pointer p) W := by kernel_rfl
theorem methS_less (p : Option Addr) (W : World) : (method 234 96 (.pointer p) "Less").run Try.prog W = .ok (94, .pointer p) W := by kernel_rfl
theorem methS_swap (p : Option Addr) (W : World) : (method 234 96 (.pointer p) "Swap").run Try.prog W = .ok (97, .pointer p) W := by kernel_rfl
theorem Try.infoRowS : (Try.prog.info? 34).map (fun i => (i.zero, i.size, i.bytes)) = some (some (.slice none 0 0), 1, 24) := by kernel_rfl

/-- A heap of rests in memory: the struct, and the row of slices. -/
structure RstS (w0 : World) (K : Nat → Obj → Prop) (W : World) (hb : Nat) (lv : Value) (vs : List Value) : Prop where
  below : Below w0.heap.size w0 W
  base : w0.heap.size ≤ hb
  lt : hb < W.heap.size
  c0 : W.cell? ⟨hb, 0, none⟩ = some lv
  c1 : W.cell? ⟨hb, 1, none⟩ = some (.func (.func 57) #[] #[])
  f0 : W.frozen? ⟨hb, 0, none⟩ = false
  own : W.ownsRow w0.heap.size 34 1 lv vs.length vs
  ne : lv.ownBlock ≠ some hb
  kp : ∀ k o, K k o → W.heap[k]? = some o ∧ k ≠ hb ∧ lv.ownBlock ≠ some k
/-- The lists that the slices are. -/
structure ListsS (w0 : World) (vs : List Value) (ls : List (List (Int × Nat))) : Prop where
  len : vs.length = ls.length
  each : ∀ (i : Nat) (v : Value) (l : List (Int × Nat)), vs[i]? = some v → ls[i]? = some l → SamplesAt w0 w0.heap.size v l ∧ l ≠ []
theorem lt_of_heapS {W : World} {k : Nat} {o : Obj} (h : W.heap[k]? = some o) : k < W.heap.size := (Array.getElem?_eq_some_iff.1 h).1
/-- Blocks of K may change, others stay. -/
theorem RstS.move {w0 : World} {K K' : Nat → Obj → Prop} {W W' : World} {hb : Nat} {lv : Value} {vs : List Value} (h : RstS w0 K W hb lv vs) (hs : W.heap.size ≤ W'.heap.size) (hk : ∀ k, k < W.heap.size → (∀ o, ¬ K k o) → W'.heap[k]? = W.heap[k]?) (hK : ∀ k o, K' k o → W'.heap[k]? = some o ∧ ((∃ o', K k o') ∨ W.heap.size ≤ k)) (hb0 : Below w0.heap.size w0 W') : RstS w0 K' W' hb lv vs := by
  have hkh := hk hb h.lt fun o ho => (h.kp hb o ho).2.1 rfl
  refine ⟨hb0, h.base, Nat.lt_of_lt_of_le h.lt hs, (World.cell?_of_block (a := ⟨hb, 0, none⟩) hkh).trans h.c0, (World.cell?_of_block (a := ⟨hb, 1, none⟩) hkh).trans h.c1, (World.frozen?_of_block (a := ⟨hb, 0, none⟩) hkh).trans h.f0,
    own_kept h.own fun k e => hk k (World.ownsRow.lt h.own k e).2 fun o ho => (h.kp k o ho).2.2 e, h.ne, fun k o ho => ?_⟩
  obtain ⟨h1, h2⟩ := hK k o ho
  refine ⟨h1, ?_⟩
  rcases h2 with ⟨o', h2⟩ | h2
  · exact (h.kp k o' h2).2
  · exact ⟨fun e => by have := h.lt; omega, fun e => by have := (World.ownsRow.lt h.own k e).2; omega⟩
theorem RstS.kept {w0 : World} {K : Nat → Obj → Prop} {W W' : World} {hb : Nat} {lv : Value} {vs : List Value} (h : RstS w0 K W hb lv vs) (hbl : Below W.heap.size W W') : RstS w0 K W' hb lv vs := by
  have hk := hbl.block hb h.lt
  exact ⟨h.below.trans (hbl.mono h.below.size), h.base, Nat.lt_of_lt_of_le h.lt hbl.size, (World.cell?_of_block (a := ⟨hb, 0, none⟩) hk).trans h.c0, (World.cell?_of_block (a := ⟨hb, 1, none⟩) hk).trans h.c1, (World.frozen?_of_block (a := ⟨hb, 0, none⟩) hk).trans h.f0,
    own_kept h.own fun k e => hbl.block k (World.ownsRow.lt h.own k e).2, h.ne, fun k o hk => ⟨(hbl.block k (lt_of_heapS (h.kp k o hk).1)).trans (h.kp k o hk).1, (h.kp k o hk).2⟩⟩
theorem RstS.shape {w0 : World} {K : Nat → Obj → Prop} {W : World} {hb : Nat} {lv : Value} {vs : List Value} (h : RstS w0 K W hb lv vs) : ∃ a c, lv = .slice a vs.length c := own_shape h.own
theorem RstS.get {w0 : World} {K : Nat → Obj → Prop} {W : World} {hb : Nat} {lv : Value} {vs : List Value} (h : RstS w0 K W hb lv vs) {i : Nat} {v : Value} (hv : vs[i]? = some v) : ∃ g c, lv = .slice (some ⟨g, 0, none⟩) vs.length c ∧ W.cell? ⟨g, i, none⟩ = some v ∧ W.frozen? ⟨g, i, none⟩ = false ∧ w0.heap.size ≤ g ∧ g ≠ hb ∧ g < W.heap.size := by
  have hi := (List.getElem?_eq_some_iff.1 hv).1
  rcases h.own.2 with ⟨rfl, h0⟩ | ⟨g, cap, cur, rfl, hg, hh, hc, hcm, hcs, ht⟩
  · omega
  · have hown := h.own
    refine ⟨g, cap, rfl, own_cell hown hv, ?_, hg, fun e => h.ne (by rw [e]; rfl), (World.ownsRow.lt hown g rfl).2⟩
    simp [World.frozen?, hh]

set_option maxRecDepth 100000 in
set_option maxHeartbeats 400000 in
theorem lenS_any {w0 : World} {K : Nat → Obj → Prop} {hb : Nat} {lv : Value} {vs : List Value} (W : World) (h : RstS w0 K W hb lv vs) :
    Calls Try.prog 58 #[.pointer (some ⟨hb, 0, none⟩)] W fun e w' => e = .returned (.int .i64 vs.length) ∧ w' = W := by
  obtain ⟨a, c, rfl⟩ := h.shape
  have c0 := h.c0
  clear h
  go_enter Try.func58, Try.ntmps58
  go_wp2
  go_ret
  exact ⟨rfl, rfl⟩

set_option maxRecDepth 100000 in
set_option maxHeartbeats 1000000 in
theorem lessS_any {w0 : World} {K : Nat → Obj → Prop} {hb : Nat} {lv : Value} {vs : List Value} {ls : List (List (Int × Nat))} (W : World) (h : RstS w0 K W hb lv vs) (hl : ListsS w0 vs ls) (hsm : ∀ l ∈ ls, ∀ x ∈ l, SmS x) (i j : Nat) {l m : List (Int × Nat)} {x y : (Int × Nat)} {r s : List (Int × Nat)} (hi : ls[i]? = some l) (hj : ls[j]? = some m) (hx : l = x :: r) (hy : m = y :: s) :
    Calls Try.prog 94 #[.pointer (some ⟨hb, 0, none⟩), .int .i64 i, .int .i64 j] W fun e w' => e = .returned (.bool (decide (cmpT x y < 0))) ∧ Below W.heap.size W w' := by
  have hil : i < vs.length := by rw [hl.len]; exact (List.getElem?_eq_some_iff.1 hi).1
  have hjl : j < vs.length := by rw [hl.len]; exact (List.getElem?_eq_some_iff.1 hj).1
  obtain ⟨v, hv⟩ : ∃ v, vs[i]? = some v := ⟨_, List.getElem?_eq_getElem hil⟩
  obtain ⟨u, hu⟩ : ∃ u, vs[j]? = some u := ⟨_, List.getElem?_eq_getElem hjl⟩
  obtain ⟨g, c, rfl, g1, _, hg0, hgn, hgl⟩ := h.get hv
  obtain ⟨g', c', e, g2, _, _⟩ := h.get hu
  cases e
  have hA := (hl.each i v l hv hi).1
  have hB := (hl.each j u m hu hj).1
  subst hx hy
  obtain ⟨b1, o1, k1, a0, a1, rfl, hb1, p0, p1, hE1⟩ := hA.head
  obtain ⟨b2, o2, k2, d0, d1, rfl, hb2, q0, q1, hE2⟩ := hB.head
  have c0 := h.c0
  have c1 := h.c1
  have hbl := h.below
  have hs := hbl.size
  have hlt := h.lt
  have m0 := (hbl.cell (p := ⟨b1, o1, none⟩) hb1).trans p0
  have m1 := (hbl.cell (p := ⟨b1, o1 + 1, none⟩) hb1).trans p1
  have t0 := (hbl.cell (p := ⟨b2, o2, none⟩) hb2).trans q0
  have t1 := (hbl.cell (p := ⟨b2, o2 + 1, none⟩) hb2).trans q1
  have C : Hid (∀ W2 : World, W2.heap = W.heap → Calls Try.prog 57 #[.agg #[a0, a1], .agg #[d0, d1]] W2 fun e w' => e = .returned (.int .i64 (cmpT x y)) ∧ Below W.heap.size W2 w') := fun W2 hW2 => by
    have hh := cmpS_any x y a0 a1 d0 d1 w0 W2 hE1 hE2 (fun k hk => by rw [hW2]; exact hbl.block k hk) (by rw [hW2]; exact hs) (hsm _ (List.mem_of_getElem? hi) x (by simp)) (hsm _ (List.mem_of_getElem? hj) y (by simp))
    rw [hW2] at hh; exact hh
  obtain ⟨rfl, rfl⟩ := id hE1
  obtain ⟨rfl, rfl⟩ := id hE2
  have i0 : (0 : Int) ≤ (i : Int) := by omega
  have i1 : (i : Int) < (vs.length : Int) := by omega
  have j0 : (0 : Int) ≤ (j : Int) := by omega
  have j1 : (j : Int) < (vs.length : Int) := by omega
  clear h hl hA hB hi hj hv hu hsm hbl hE1 hE2
  go_enter Try.func94, Try.ntmps94
  go_wp2
  as_aux_lemma =>
    go_region_held3 (fun w' => w'.cell? ⟨hb, 0, none⟩ = some (.slice (some ⟨g, 0, none⟩) vs.length c) ∧ w'.cell? ⟨hb, 1, none⟩ = some (.func (.func 57) #[] #[]) ∧ w'.cell? ⟨g, i, none⟩ = some (.slice (some ⟨b1, o1, none⟩) (r.length + 1) k1) ∧ w'.cell? ⟨g, j, none⟩ = some (.slice (some ⟨b2, o2, none⟩) (s.length + 1) k2) ∧ w'.cell? ⟨b1, o1, none⟩ = some (.int .i64 x.1) ∧ w'.cell? ⟨b1, o1 + 1, none⟩ = some (.int .u64 x.2) ∧ w'.cell? ⟨b2, o2, none⟩ = some (.int .i64 y.1) ∧ w'.cell? ⟨b2, o2 + 1, none⟩ = some (.int .u64 y.2)) (go_keep) (first | (go_at_call 57; refine (C.out _ (by exact rfl)).mono ?_; rintro e w2 ⟨rfl, hb3⟩; have y0 := (hb3.cell (p := ⟨hb, 0, none⟩) hlt).trans c0; have y1 := (hb3.cell (p := ⟨hb, 1, none⟩) hlt).trans c1; have y2 := (hb3.cell (p := ⟨g, i, none⟩) hgl).trans g1; have y3 := (hb3.cell (p := ⟨g, j, none⟩) hgl).trans g2; have y4 := (hb3.cell (p := ⟨b1, o1, none⟩) (by show b1 < W.heap.size; omega)).trans m0; have y5 := (hb3.cell (p := ⟨b1, o1 + 1, none⟩) (by show b1 < W.heap.size; omega)).trans m1; have y6 := (hb3.cell (p := ⟨b2, o2, none⟩) (by show b2 < W.heap.size; omega)).trans t0; have y7 := (hb3.cell (p := ⟨b2, o2 + 1, none⟩) (by show b2 < W.heap.size; omega)).trans t1))
    all_goals
      have HB := hide ((Below.refl W.heap.size W).drew.trans hb3)
      clear hb3 y0 y1 y2 y3 y4 y5 y6 y7
      go_wp2
      go_ret
      exact ⟨rfl, HB.out⟩

/-- A cell of the row written over. -/
theorem RstS.set {w0 : World} {K : Nat → Obj → Prop} {W : World} {hb g c : Nat} {vs : List Value} (h : RstS w0 K W hb (.slice (some ⟨g, 0, none⟩) vs.length c) vs) {i : Nat} (_ : i < vs.length) (v : Value) : RstS w0 K (W.setCell ⟨g, i, none⟩ v) hb (.slice (some ⟨g, 0, none⟩) vs.length c) (vs.set i v) := by
  have hgn : g ≠ hb := fun e => h.ne (by rw [e]; rfl)
  rcases h.own.2 with ⟨h0, _⟩ | ⟨g', cap, cur, he, hg, hh, hc, hcm, hcs, ht⟩
  · cases h0
  · cases he
    have hk : hb ≠ g := fun e => hgn e.symm
    have hkb := Below.heap_setCell W ⟨g, i, none⟩ v hb hk
    refine ⟨h.below.setCell hg _, h.base, by simpa using h.lt, (World.cell?_of_block (a := ⟨hb, 0, none⟩) hkb).trans h.c0, (World.cell?_of_block (a := ⟨hb, 1, none⟩) hkb).trans h.c1, (World.frozen?_of_block (a := ⟨hb, 0, none⟩) hkb).trans h.f0, ?_, h.ne, fun k o ho => ⟨(Below.heap_setCell W ⟨g, i, none⟩ v k (fun e => (h.kp k o ho).2.2 (by rw [e]; rfl))).trans (h.kp k o ho).1, (h.kp k o ho).2⟩⟩
    rw [List.length_set]
    refine ⟨by simp, .inr ⟨g, c, cur.setIfInBounds i v, rfl, hg, ?_, hc, hcm, by simpa using hcs, ?_⟩⟩
    · rw [setCell_eq_setRow W g i cur 34 (0, 0) v hh]
      exact setRow_heap W g cur _ 34 (0, 0) hh
    · rw [Nat.mul_one] at ht ⊢
      rw [Array.toList_setIfInBounds, List.take_set, ht]

set_option maxRecDepth 100000 in
set_option maxHeartbeats 1000000 in
theorem swapS_any {w0 : World} {K : Nat → Obj → Prop} {hb : Nat} {lv : Value} {vs : List Value} (W : World) (h : RstS w0 K W hb lv vs) (i j : Nat) {v u : Value} (hi : vs[i]? = some v) (hj : vs[j]? = some u) (hsv : ∃ a n c, v = .slice a n c) (hsu : ∃ a n c, u = .slice a n c) :
    Calls Try.prog 97 #[.pointer (some ⟨hb, 0, none⟩), .int .i64 i, .int .i64 j] W fun e w' => e = .returned (.tuple #[]) ∧ RstS w0 K w' hb lv ((vs.set i u).set j v) := by
  have hil := (List.getElem?_eq_some_iff.1 hi).1
  have hjl := (List.getElem?_eq_some_iff.1 hj).1
  obtain ⟨g, c, rfl, g1, gf1, hg0, hgn, hgl⟩ := h.get hi
  obtain ⟨g', c', e, g2, gf2, _⟩ := h.get hj
  cases e
  obtain ⟨a1, n1, k1, rfl⟩ := hsv
  obtain ⟨a2, n2, k2, rfl⟩ := hsu
  have c0 := h.c0
  have h2 := (h.set hil (.slice a2 n2 k2))
  have h3 : RstS w0 K ((W.setCell ⟨g, i, none⟩ (.slice a2 n2 k2)).setCell ⟨g, j, none⟩ (.slice a1 n1 k1)) hb (.slice (some ⟨g, 0, none⟩) vs.length c) ((vs.set i (.slice a2 n2 k2)).set j (.slice a1 n1 k1)) := by
    have e : (vs.set i (.slice a2 n2 k2)).length = vs.length := by simp
    have h4 := RstS.set (vs := vs.set i (.slice a2 n2 k2)) (by rw [e]; exact h2) (i := j) (by rw [e]; exact hjl) (.slice a1 n1 k1)
    rw [e] at h4; exact h4
  have hx : (W.setCell ⟨g, i, none⟩ (.slice a2 n2 k2)).cell? ⟨g, j, none⟩ = some (.slice a2 n2 k2) := by
    by_cases e : i = j
    · subst e; exact World.cell?_setCell_same _ _ _ g1
    · rw [World.cell?_setCell_other _ _ _ _ (fun y => e (congrArg Addr.off y))]; exact g2
  have H3 := hide h3
  have i0 : (0 : Int) ≤ (i : Int) := by omega
  have i1 : (i : Int) < (vs.length : Int) := by omega
  have j0 : (0 : Int) ≤ (j : Int) := by omega
  have j1 : (j : Int) < (vs.length : Int) := by omega
  have hne : ¬ hb = g := fun e => hgn e.symm
  clear h h2 h3 hi hj
  go_enter Try.func97, Try.ntmps97
  go_region
  all_goals
    go_wp2
    go_end0
    exact ⟨rfl, H3.out.kept ((Below.refl _ _).drew)⟩
end Go.Proofs.Ytcidgfdiacehmaa

/- What both instances of join's heap use. -/
namespace Go.Proofs.Ytcidgfdiacehmaa
open Go.RowKit Go.Lib

/-- One element fewer. -/
theorem own_less {base e : Nat} {w : World} {g c : Nat} {xs : List Value} {x : Value} (h : w.ownsRow base e 1 (.slice (some ⟨g, 0, none⟩) (xs ++ [x]).length c) (xs ++ [x]).length (xs ++ [x])) : w.ownsRow base e 1 (.slice (some ⟨g, 0, none⟩) xs.length c) xs.length xs := by
  refine ⟨by simp, ?_⟩
  rcases h.2 with ⟨h0, _⟩ | ⟨g', cap, cur, he, hg, hh, hc, hcm, hcs, ht⟩
  · cases h0
  · cases he
    refine .inr ⟨g, c, cur, rfl, hg, hh, by simp at hc; omega, hcm, hcs, ?_⟩
    have := congrArg (List.take (xs.length * 1)) ht
    rw [List.take_take, Nat.min_eq_left (by simp), List.take_append_of_le_length (by simp)] at this
    simpa using this
theorem take_last {α : Type} {l : List α} {n : Nat} {x : α} (h : l[n]? = some x) (hn : l.length = n + 1) : l = l.take n ++ [x] := by
  have := take_more l n x h
  rw [← this, ← hn, List.take_length]
theorem restOf_mem {α : Type} {t : List α} {ls : List (List α)} {k : List α} (h : k ∈ restOf t ls) : k = t ∨ k ∈ ls := by
  unfold restOf at h; split at h
  · exact .inr h
  · exact List.mem_cons.1 h
theorem restOf_len {α : Type} (t : List α) (ls : List (List α)) : (restOf t ls).length ≤ ls.length + 1 := by
  unfold restOf; split <;> simp
theorem alloc_heap_new (w : World) (o : Obj) : (w.alloc o).heap[w.heap.size]? = some o := by rw [World.alloc]; simp
def sliceLen : Value → Nat
  | .slice _ n _ => n
  | _ => 0
theorem rest_drewN (w : World) (n : Nat) : Below w.heap.size w (w.drewN n) := ⟨rfl, rfl, rfl, Nat.le_refl _, fun _ _ => rfl⟩
/-- Those that are not empty. -/
def full {α : Type} (ls : List (List α)) : List (List α) := ls.filter fun l => !l.isEmpty
theorem full_flat {α : Type} (ls : List (List α)) : (full ls).flatten = ls.flatten := List.flatten_filter_not_isEmpty
theorem full_snoc {α : Type} (ls : List (List α)) (l : List α) : (restOf l (full ls)).Perm (full (ls ++ [l])) := by
  unfold full restOf
  rw [List.filter_append]
  cases l with
  | nil => simp
  | cons x t => simp only [reduceCtorEq, if_false]; exact List.perm_append_comm (l₁ := [x :: t])
theorem full_len {α : Type} (ls : List (List α)) : (full ls).length ≤ ls.length := List.length_filter_le _ _
theorem full_rests {α : Type} {c : α → α → Int} {ls : List (List α)} (h : ∀ l ∈ ls, l.Pairwise fun x y => c x y = -1) : Rests c (full ls) :=
  ⟨fun l hl => by have := (List.mem_filter.1 hl).2; intro e; subst e; simp at this, fun l hl => h l (List.mem_filter.1 hl).1⟩
end Go.Proofs.Ytcidgfdiacehmaa

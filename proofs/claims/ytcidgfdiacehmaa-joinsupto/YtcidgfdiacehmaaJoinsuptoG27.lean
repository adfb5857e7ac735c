/- 'choirlaw.Joins', for any two lists of series of bulk at most 1048576: Join answers the document's join or error, either way round; what is handed in stays, what comes out is its owner's. The second form's statement: its only condition is the row's own bound on the arguments' bulk. -/
import Derived.Test.YtcidgfdiacehmaaJoinsuptoG26
import Derived.Test.YtcidgfdiacehmaaJoinsuptoG2
import Derived.Test.YtcidgfdiacehmaaJoinsuptoG24
/- container/heap over join's rests (of series): Push, Pop; add, takeLeast. -/
namespace Go.Proofs.Ytcidgfdiacehmaa
open Go.RowKit Go.Lib

/-- A heap, whole: whatever its slices are. -/
def HeapR (w0 : World) (K : Nat → Obj → Prop) (W : World) (hb : Nat) (ls : List (List Ser)) : Prop := ∃ lv vs ls', HsR w0 K W hb ls'.length lv vs ls' ∧ ls'.Perm ls ∧ Hp.IsHeap leR (hdR ls') ls'.length
theorem HeapR.perm {w0 : World} {K : Nat → Obj → Prop} {W : World} {hb : Nat} {ls ms : List (List Ser)} (h : HeapR w0 K W hb ls) (hp : ls.Perm ms) : HeapR w0 K W hb ms := by
  obtain ⟨lv, vs, ls', h1, h2, h3⟩ := h
  exact ⟨lv, vs, ls', h1, h2.trans hp, h3⟩
theorem HeapR.move {w0 : World} {K K' : Nat → Obj → Prop} {W W' : World} {hb : Nat} {ls : List (List Ser)} (h : HeapR w0 K W hb ls) (hs : W.heap.size ≤ W'.heap.size) (hk : ∀ k, k < W.heap.size → (∀ o, ¬ K k o) → W'.heap[k]? = W.heap[k]?) (hK : ∀ k o, K' k o → W'.heap[k]? = some o ∧ ((∃ o', K k o') ∨ W.heap.size ≤ k)) (hb0 : Below w0.heap.size w0 W') : HeapR w0 K' W' hb ls := by
  obtain ⟨lv, vs, ls', h1, h2, h3⟩ := h
  exact ⟨lv, vs, ls', ⟨h1.rst.move hs hk hK hb0, h1.lists, h1.len⟩, h2, h3⟩
theorem HeapR.kp {w0 : World} {K : Nat → Obj → Prop} {W : World} {hb : Nat} {ls : List (List Ser)} (h : HeapR w0 K W hb ls) {k : Nat} {o : Obj} (hk : K k o) : W.heap[k]? = some o := by
  obtain ⟨lv, vs, ls', h1, _⟩ := h; exact (h1.rst.kp k o hk).1
theorem HeapR.below {w0 : World} {K : Nat → Obj → Prop} {W : World} {hb : Nat} {ls : List (List Ser)} (h : HeapR w0 K W hb ls) : Below w0.heap.size w0 W := by
  obtain ⟨lv, vs, ls', h1, _⟩ := h; exact h1.rst.below
theorem HeapR.kept {w0 : World} {K : Nat → Obj → Prop} {W W' : World} {hb : Nat} {ls : List (List Ser)} (h : HeapR w0 K W hb ls) (hb' : Below W.heap.size W W') : HeapR w0 K W' hb ls := by
  obtain ⟨lv, vs, ls', h1, h2, h3⟩ := h
  exact ⟨lv, vs, ls', h1.kept hb', h2, h3⟩
theorem hdR_app {ls : List (List Ser)} {l : List Ser} {k : Nat} (h : k < ls.length) : hdR (ls ++ [l]) k = hdR ls k := by
  unfold hdR; rw [List.getD_eq_getElem?_getD, List.getD_eq_getElem?_getD, List.getElem?_append_left h]
theorem ListsR.snoc {w0 : World} {vs : List Value} {ls : List (List Ser)} {v : Value} {l : List Ser} (h : ListsR w0 vs ls) (hv : BatchAt w0 w0.heap.size v l) (hl : l ≠ []) : ListsR w0 (vs ++ [v]) (ls ++ [l]) := by
  refine ⟨by simp [h.len], fun i u m hu hm => ?_⟩
  rcases getElem?_snoc hu with ⟨hi, hu⟩ | ⟨hi, rfl⟩
  · rw [List.getElem?_append_left (by rw [← h.len]; exact hi)] at hm
    exact h.each i u m hu hm
  · rw [hi, h.len, List.getElem?_append_right (Nat.le_refl _), Nat.sub_self] at hm
    cases hm
    exact ⟨hv, hl⟩

set_option maxRecDepth 100000 in
set_option maxHeartbeats 1000000 in
theorem heapPushR_any {w0 : World} {K : Nat → Obj → Prop} {hb : Nat} {ls : List (List Ser)} (W : World) (h : HeapR w0 K W hb ls) (a : Option Addr) (m c : Nat) (l : List Ser) (hv : BatchAt w0 w0.heap.size (.slice a m c) l) (hl : l ≠ []) (hsm : ∀ k ∈ l :: ls, ∀ x ∈ k, SmR x) (hn : ls.length ≤ 1000000000) :
    Calls Try.prog 54 #[.iface 80 (.pointer (some ⟨hb, 0, none⟩)), .iface 22 (.slice a m c)] W fun e w' => e = .returned (.tuple #[]) ∧ HeapR w0 K w' hb (l :: ls) := by
  obtain ⟨lv, vs, ls', h1, h2, h3⟩ := h
  have hlen := h2.length_eq
  have hvl := h1.lists.len
  have m1 := methR_push
  have m2 := methR_len
  have C1 := hide (pushR_any W h1.rst a m c (by omega))
  have HL := hide (h1.lists.snoc hv hl)
  have HU := hide (Hp.up_start (g := hdR (ls' ++ [l])) h3 fun k hk => hdR_app hk)
  have HP := hide h2
  have HSm := hide hsm
  clear h1 h3 h2 hsm hv
  go_enter Try.func54, Try.ntmps54
  go_wp2_with fail
  refine C1.out.mono ?_
  rintro e w1 ⟨rfl, lv1, hr1⟩
  have hlv : (vs ++ [Value.slice a m c]).length = ls'.length + 1 := by simp [hvl]
  have C2 := hide (lenR_any w1 hr1)
  rw [hlv] at C2
  have H1 : Hid (HsR w0 K w1 hb (ls'.length + 1) lv1 (vs ++ [.slice a m c]) (ls' ++ [l])) := ⟨hr1, HL.out, by simp⟩
  have C3 : Hid (∀ J : Int, J = (ls'.length : Int) → Calls Try.prog 64 #[.iface 80 (.pointer (some ⟨hb, 0, none⟩)), .int .i64 J] w1 fun e w' => e = .returned (.tuple #[]) ∧ ∃ vs2 ls2, HsR w0 K w' hb (ls'.length + 1) lv1 vs2 ls2 ∧ ls2.Perm (ls' ++ [l]) ∧ Hp.IsHeap leR (hdR ls2) (ls'.length + 1)) := fun J hJ => by
    subst hJ
    exact upR_any w1 H1.out (fun k hk x hx => HSm.out k (by
      rcases List.mem_append.1 hk with hk | hk
      · exact List.mem_cons_of_mem _ (HP.out.mem_iff.1 hk)
      · simp at hk; subst hk; exact List.mem_cons_self ..) x hx) ls'.length (by omega) (by omega) HU.out
  clear hr1 C1 hlv H1
  go_wp2_with fail
  refine C2.out.mono ?_
  rintro e w2 ⟨rfl, rfl⟩
  clear C2
  go_wp2_with fail
  refine (C3.out _ (by omega)).mono ?_
  rintro e w3 ⟨rfl, vs2, ls2, h4, h5, h6⟩
  have HF : Hid (HeapR w0 K w3 hb (l :: ls)) := by
    have hl2 := h4.len
    refine ⟨lv1, vs2, ls2, by rw [hl2]; exact h4, h5.trans ?_, by rw [hl2]; exact h6⟩
    exact (List.perm_append_comm (l₁ := ls') (l₂ := [l])).trans (List.Perm.cons _ HP.out)
  clear h4 h5 h6 C3
  go_wp2
  go_end0
  exact ⟨rfl, HF.out⟩

theorem ListsR.cut {w0 : World} {vs : List Value} {ls : List (List Ser)} (h : ListsR w0 vs ls) (n : Nat) : ListsR w0 (vs.take n) (ls.take n) := by
  refine ⟨by simp [h.len], fun i u m hu hm => ?_⟩
  rw [List.getElem?_take] at hu hm
  by_cases hi : i < n
  · rw [if_pos hi] at hu hm; exact h.each i u m hu hm
  · rw [if_neg hi] at hu; cases hu

set_option maxRecDepth 100000 in
set_option maxHeartbeats 1000000 in
theorem heapPopR_any {w0 : World} {K : Nat → Obj → Prop} {hb : Nat} {ls : List (List Ser)} (W : World) (h : HeapR w0 K W hb ls) (hsm : ∀ k ∈ ls, ∀ x ∈ k, SmR x) (hn : ls.length ≤ 1000000000) (h0 : ls ≠ []) :
    Calls Try.prog 62 #[.iface 80 (.pointer (some ⟨hb, 0, none⟩))] W fun e w' => ∃ a m c x t ms, e = .returned (.iface 22 (.slice a m c)) ∧ BatchAt w0 w0.heap.size (.slice a m c) (x :: t) ∧ ls.Perm ((x :: t) :: ms) ∧ (∀ k ∈ ls, ∀ y, k.head? = some y → cmpS x y ≤ 0) ∧ HeapR w0 K w' hb ms := by
  obtain ⟨lv, vs, ls', h1, h2, h3⟩ := h
  have hlen := h2.length_eq
  have hvl := h1.lists.len
  obtain ⟨n, hn1⟩ : ∃ n, ls'.length = n + 1 := ⟨ls'.length - 1, by have : 0 < ls.length := List.length_pos_iff.2 h0; omega⟩
  rw [hn1] at h1 h3
  obtain ⟨x, t, v, hlx, hvx, ⟨a, m, c, rfl⟩, hdx⟩ := h1.cons (i := 0) (by omega)
  obtain ⟨y, s, u, hly, hvy, hsy, hdy⟩ := h1.cons (i := n) (by omega)
  have hmin : ∀ k ∈ ls, ∀ y, k.head? = some y → cmpS x y ≤ 0 := fun k hk z hz => by
    obtain ⟨i, hi, e⟩ := List.mem_iff_getElem.1 (h2.mem_iff.2 hk)
    have := Hp.heap_min leR_tot leR_tr h3 i (by omega)
    cases k with
    | nil => cases hz
    | cons p q =>
      cases hz
      rw [hdx, hdR_of (ls := ls') (k := i) (by rw [List.getElem?_eq_getElem hi, e])] at this
      exact this
  have hA := (h1.lists.each 0 _ _ hvx hlx).1
  have m1 := methR_swap
  have m2 := methR_len
  have m3 := methR_pop
  have C1 := hide (lenR_any W h1.rst)
  rw [show vs.length = n + 1 by omega] at C1
  have C2 : Hid (∀ J : Int, J = (n : Int) → Calls Try.prog 93 #[.pointer (some ⟨hb, 0, none⟩), .int .i64 0, .int .i64 J] W fun e w' => e = .returned (.tuple #[]) ∧ RstR w0 K w' hb lv ((vs.set 0 u).set n (.slice a m c))) := fun J hJ => by
    subst hJ
    exact swapR_any W h1.rst 0 n hvx hvy ⟨_, _, _, rfl⟩ hsy
  have hl1 := h1.lists.swap hvx hvy hlx hly
  have hd1 : Hp.DownInv leR (hdR ((ls'.set 0 (y :: s)).set n (x :: t))) n 0 := by
    refine Hp.down_start h3 fun k hk0 hk => ?_
    rw [hdR_swap hlx hly]
    unfold Hp.swp
    rw [if_neg (by omega), if_neg (by omega)]
  have hlast : ((ls'.set 0 (y :: s)).set n (x :: t))[n]? = some (x :: t) := by rw [List.getElem?_set_self (by simp; omega)]
  have hvlast : ((vs.set 0 u).set n (.slice a m c))[n]? = some (.slice a m c) := by rw [List.getElem?_set_self (by simp; omega)]
  have hperm := (Hp.set_swap_perm ls' 0 n _ _ hlx hly).trans h2
  have HA := hide hA
  have HMin := hide hmin
  have HL1 := hide hl1
  have HD1 := hide hd1
  have HLast := hide hlast
  have HVLast := hide hvlast
  have HPerm := hide hperm
  have HSm := hide hsm
  have HLen1 : Hid (((ls'.set 0 (y :: s)).set n (x :: t)).length = n + 1) := by show _ = _; simp [hn1]
  have HVLen1 : Hid (((vs.set 0 u).set n (.slice a m c)).length = n + 1) := by show _ = _; simp; omega
  clear h1 h2 h3 hl1 hd1 hlast hvlast hperm hmin hA hsm hlx hly hvx hvy hsy hdx hdy
  generalize (ls'.set 0 (y :: s)).set n (x :: t) = ls1 at *
  generalize (vs.set 0 u).set n (.slice a m c) = vs1 at *
  go_enter Try.func62, Try.ntmps62
  go_wp2_with fail
  refine C1.out.mono ?_
  rintro e w1 ⟨rfl, rfl⟩
  clear C1
  go_wp2_with fail
  refine (C2.out _ (by omega)).mono ?_
  rintro e w2 ⟨rfl, hr2⟩
  have C3 : Hid (∀ J : Int, J = (n : Int) → Calls Try.prog 70 #[.iface 80 (.pointer (some ⟨hb, 0, none⟩)), .int .i64 0, .int .i64 J] w2 fun e w' => (∃ r, e = .returned (.bool r)) ∧ ∃ vs' ls', HsR w0 K w' hb (n + 1) lv vs' ls' ∧ ls'.Perm ls1 ∧ Hp.IsHeap leR (hdR ls') n ∧ vs'[n]? = vs1[n]? ∧ ls'[n]? = ls1[n]?) := fun J hJ => by
    subst hJ
    exact downR_any w2 ⟨hr2, HL1.out, HLen1.out⟩ (fun k hk x hx => HSm.out k (HPerm.out.mem_iff.1 hk) x hx) (by omega) HD1.out
  clear hr2 C2
  go_wp2_with fail
  refine (C3.out _ (by omega)).mono ?_
  rintro e w3 ⟨⟨rb, rfl⟩, vs3, ls3, h4, h5, h6, h7, h8⟩
  have hv3 := take_last (h7.trans HVLast.out) (by rw [h4.lists.len, h4.len])
  have hl3 := take_last (h8.trans HLast.out) h4.len
  have hr3 := h4.rst
  rw [hv3] at hr3
  have hl3n : (ls3.take n).length = n := by rw [List.length_take, h4.len]; omega
  have hv3n : (vs3.take n).length = n := by rw [List.length_take, h4.lists.len, h4.len]; omega
  have C4 := hide (popR_any w3 hr3 (by omega))
  have HL3 := hide (h4.lists.cut n)
  have HP3 : Hid (ls.Perm ((x :: t) :: ls3.take n)) := by
    have := (h5.trans HPerm.out).symm
    rw [hl3] at this
    exact this.trans List.perm_append_comm
  have HH3 : Hid (Hp.IsHeap leR (hdR (ls3.take n)) n) := fun k hk0 hk => by
    have e : ∀ q, q < n → hdR (ls3.take n) q = hdR ls3 q := fun q hq => by
      unfold hdR; rw [List.getD_eq_getElem?_getD, List.getD_eq_getElem?_getD, List.getElem?_take, if_pos hq]
    rw [e _ (by omega), e _ hk]; exact h6 k hk0 hk
  clear h4 h5 h6 h7 h8 hv3 hl3 hr3 C3
  go_wp2_with fail
  refine C4.out.mono ?_
  rintro e w4 ⟨rfl, lv4, hr4⟩
  have HF : Hid (HeapR w0 K w4 hb (ls3.take n)) := ⟨lv4, vs3.take n, ls3.take n, by rw [hl3n]; exact ⟨hr4, HL3.out, hl3n⟩, List.Perm.refl _, by rw [hl3n]; exact HH3.out⟩
  clear hr4 C4
  go_wp2
  go_ret
  exact ⟨a, m, c, x, t, ls3.take n, rfl, HA.out, HP3.out, HMin.out, HF.out⟩
end Go.Proofs.Ytcidgfdiacehmaa

/- A batch without its first. -/
namespace Go.Proofs.Ytcidgfdiacehmaa
open Go.RowKit Go.Lib
theorem BatchAt.tail {w : World} {B b o k n : Nat} {x : Ser} {r : List Ser} (h : BatchAt w B (.slice (some ⟨b, o, none⟩) n k) (x :: r)) : n = r.length + 1 ∧ r.length ≤ k - 1 ∧ BatchAt w B (.slice (some ⟨b, o + 2, none⟩) r.length (k - 1)) r := by
  obtain ⟨a, cap, e, hc, h2⟩ := h
  cases e
  have hc' : r.length + 1 ≤ k := hc
  refine ⟨rfl, by omega, _, _, rfl, by omega, ?_⟩
  rcases h2 with h2 | ⟨b', o', e, hb, hcell⟩
  · cases h2
  · cases e
    refine .inr ⟨b, o + 2, rfl, hb, fun i y hy => ?_⟩
    have := hcell (i + 1) y (by rw [List.getElem?_cons_succ]; exact hy)
    rw [show o + (i + 1) * 2 = o + 2 + i * 2 by omega] at this
    exact this
theorem BatchAt.none (w : World) (B : Nat) (a : Option Addr) (q : Nat) : BatchAt w B (.slice a 0 q) [] := ⟨a, q, rfl, Nat.zero_le _, .inl rfl⟩
end Go.Proofs.Ytcidgfdiacehmaa

/- 'choirkeep.Lasts', for any two lists of steps (100 of each are done) and any numbers: what a replica had when it was synced or compacted it has behind any crash and restart, whatever came between; and a second restart changes nothing. The first form's statement and its card: no condition beside the row's own. -/
import Derived.Test.YtamcclcbmenjdaaGreatDoorLastsG29
import Derived.Test.YtamcclcbmenjdaaGreatDoorLastsG5
import Derived.Test.YtamcclcbmenjdaaGreatDoorLastsG28
/- container/heap over join's rests (of series): Push, Pop; add, takeLeast. -/
namespace Go.Proofs.YtamcclcbmenjdaaGreatDoor
open Go.RowKit Go.Lib

/-- A heap, whole: whatever its slices are. -/
def HeapR (w0 : World) (K : Nat → Obj → Prop) (W : World) (hb : Nat) (ls : List (List Ser)) : Prop := ∃ lv vs ls', HsR w0 K W hb ls'.length lv vs ls' ∧ ls'.Perm ls ∧ Hp.IsHeap leR (hdR ls') ls'.length
theorem HeapR.perm {w0 : World} {K : Nat → Obj → Prop} {W : World} {hb : Nat} {ls ms : List (List Ser)} (h : HeapR w0 K W hb ls) (hp : ls.Perm ms) : HeapR w0 K W hb ms := by
  obtain ⟨lv, vs, ls', h1, h2, h3⟩ := h
  exact ⟨lv, vs, ls', h1, h2.trans hp, h3⟩
theorem HeapR.move {w0 : World} {K K' : Nat → Obj → Prop} {W W' : World} {hb : Nat} {ls : List (List Ser)} (h : HeapR w0 K W hb ls) (hs : W.heap.size ≤ W'.heap.size) (hk : ∀ k, k < W.heap.size → (∀ o, ¬ K k o) → W'.heap[k]? = W.heap[k]?) (hK : ∀ k o, K' k o → W'.heap[k]? = some o ∧ ((∃ o', K k o') ∨ W.heap.size ≤ k)) (hb0 : Below w0.heap.size w0 W') : HeapR w0 K' W' hb ls := by
  obtain ⟨lv, vs, ls', h1, h2, h3⟩ := h
  exact ⟨lv, vs, ls', ⟨h1.rst.move hs hk hK hb0, h1.lists, h1.len⟩, h2, h3⟩
theorem HeapR.kp {w0 : World} {K : Nat → Obj → Prop} {W : World} {hb : Nat} {ls : List (List Ser)} (h : HeapR w0 K W hb ls) {k : Nat} {o : Obj} (hk : K k o) : W.heap[k]? = some o := by
  obtain ⟨lv, vs, ls', h1, _⟩ := h; exact (h1.rst.kp k o hk).1
theorem HeapR.below {w0 : World} {K : Nat → Obj → Prop} {W : World} {hb : Nat} {ls : List (List Ser)} (h : HeapR w0 K W hb ls) : Below w0.heap.size w0 W := by
  obtain ⟨lv, vs, ls', h1, _⟩ := h; exact h1.rst.below
theorem HeapR.kept {w0 : World} {K : Nat → Obj → Prop} {W W' : World} {hb : Nat} {ls : List (List Ser)} (h : HeapR w0 K W hb ls) (hb' : Below W.heap.size W W') : HeapR w0 K W' hb ls := by
  obtain ⟨lv, vs, ls', h1, h2, h3⟩ := h
  exact ⟨lv, vs, ls', h1.kept hb', h2, h3⟩
theorem hdR_app {ls : List (List Ser)} {l : List Ser} {k : Nat} (h : k < ls.length) : hdR (ls ++ [l]) k = hdR ls k := by
  unfold hdR; rw [List.getD_eq_getElem?_getD, List.getD_eq_getElem?_getD, List.getElem?_append_left h]
theorem ListsR.snoc {w0 : World} {vs : List Value} {ls : List (List Ser)} {v : Value} {l : List Ser} (h : ListsR w0 vs ls) (hv : BatchAt w0 w0.heap.size v l) (hl : l ≠ []) : ListsR w0 (vs ++ [v]) (ls ++ [l]) := by
  refine ⟨by simp [h.len], fun i u m hu hm => ?_⟩
  rcases getElem?_snoc hu with ⟨hi, hu⟩ | ⟨hi, rfl⟩
  · rw [List.getElem?_append_left (by rw [← h.len]; exact hi)] at hm
    exact h.each i u m hu hm
  · rw [hi, h.len, List.getElem?_append_right (Nat.le_refl _), Nat.sub_self] at hm
    cases hm
    exact ⟨hv, hl⟩

set_option maxRecDepth 100000 in
set_option maxHeartbeats 1000000 in
theorem heapPushR_any {w0 : World} {K : Nat → Obj → Prop} {hb : Nat} {ls : List (List Ser)} (W : World) (h : HeapR w0 K W hb ls) (a : Option Addr) (m c : Nat) (l : List Ser) (hv : BatchAt w0 w0.heap.size (.slice a m c) l) (hl : l ≠ []) (hsm : ∀ k ∈ l :: ls, ∀ x ∈ k, SmR x) (hn : ls.length ≤ 1000000000) :
    Calls Tryz.prog 159 #[.iface 170 (.pointer (some ⟨hb, 0, none⟩)), .iface 39 (.slice a m c)] W fun e w' => e = .returned (.tuple #[]) ∧ HeapR w0 K w' hb (l :: ls) := by
  obtain ⟨lv, vs, ls', h1, h2, h3⟩ := h
  have hlen := h2.length_eq
  have hvl := h1.lists.len
  have m1 := methR_push
  have m2 := methR_len
  have C1 := hide (pushR_any W h1.rst a m c (by omega))
  have HL := hide (h1.lists.snoc hv hl)
  have HU := hide (Hp.up_start (g := hdR (ls' ++ [l])) h3 fun k hk => hdR_app hk)
  have HP := hide h2
  have HSm := hide hsm
  clear h1 h3 h2 hsm hv
  go_enter Tryz.func159, Tryz.ntmps159
  go_wp2_with fail
  refine C1.out.mono ?_
  rintro e w1 ⟨rfl, lv1, hr1⟩
  have hlv : (vs ++ [Value.slice a m c]).length = ls'.length + 1 := by simp [hvl]
  have C2 := hide (lenR_any w1 hr1)
  rw [hlv] at C2
  have H1 : Hid (HsR w0 K w1 hb (ls'.length + 1) lv1 (vs ++ [.slice a m c]) (ls' ++ [l])) := ⟨hr1, HL.out, by simp⟩
  have C3 : Hid (∀ J : Int, J = (ls'.length : Int) → Calls Tryz.prog 192 #[.iface 170 (.pointer (some ⟨hb, 0, none⟩)), .int .i64 J] w1 fun e w' => e = .returned (.tuple #[]) ∧ ∃ vs2 ls2, HsR w0 K w' hb (ls'.length + 1) lv1 vs2 ls2 ∧ ls2.Perm (ls' ++ [l]) ∧ Hp.IsHeap leR (hdR ls2) (ls'.length + 1)) := fun J hJ => by
    subst hJ
    exact upR_any w1 H1.out (fun k hk x hx => HSm.out k (by
      rcases List.mem_append.1 hk with hk | hk
      · exact List.mem_cons_of_mem _ (HP.out.mem_iff.1 hk)
      · simp at hk; subst hk; exact List.mem_cons_self ..) x hx) ls'.length (by omega) (by omega) HU.out
  clear hr1 C1 hlv H1
  go_wp2_with fail
  refine C2.out.mono ?_
  rintro e w2 ⟨rfl, rfl⟩
  clear C2
  go_wp2_with fail
  refine (C3.out _ (by omega)).mono ?_
  rintro e w3 ⟨rfl, vs2, ls2, h4, h5, h6⟩
  have HF : Hid (HeapR w0 K w3 hb (l :: ls)) := by
    have hl2 := h4.len
    refine ⟨lv1, vs2, ls2, by rw [hl2]; exact h4, h5.trans ?_, by rw [hl2]; exact h6⟩
    exact (List.perm_append_comm (l₁ := ls') (l₂ := [l])).trans (List.Perm.cons _ HP.out)
  clear h4 h5 h6 C3
  go_wp2
  go_end0
  exact ⟨rfl, HF.out⟩

theorem ListsR.cut {w0 : World} {vs : List Value} {ls : List (List Ser)} (h : ListsR w0 vs ls) (n : Nat) : ListsR w0 (vs.take n) (ls.take n) := by
  refine ⟨by simp [h.len], fun i u m hu hm => ?_⟩
  rw [List.getElem?_take] at hu hm
  by_cases hi : i < n
  · rw [if_pos hi] at hu hm; exact h.each i u m hu hm
  · rw [if_neg hi] at hu; cases hu

set_option maxRecDepth 100000 in
set_option maxHeartbeats 1000000 in
theorem heapPopR_any {w0 : World} {K : Nat → Obj → Prop} {hb : Nat} {ls : List (List Ser)} (W : World) (h : HeapR w0 K W hb ls) (hsm : ∀ k ∈ ls, ∀ x ∈ k, SmR x) (hn : ls.length ≤ 1000000000) (h0 : ls ≠ []) :
    Calls Tryz.prog 166 #[.iface 170 (.pointer (some ⟨hb, 0, none⟩))] W fun e w' => ∃ a m c x t ms, e = .returned (.iface 39 (.slice a m c)) ∧ BatchAt w0 w0.heap.size (.slice a m c) (x :: t) ∧ ls.Perm ((x :: t) :: ms) ∧ (∀ k ∈ ls, ∀ y, k.head? = some y → cmpS x y ≤ 0) ∧ HeapR w0 K w' hb ms := by
  obtain ⟨lv, vs, ls', h1, h2, h3⟩ := h
  have hlen := h2.length_eq
  have hvl := h1.lists.len
  obtain ⟨n, hn1⟩ : ∃ n, ls'.length = n + 1 := ⟨ls'.length - 1, by have : 0 < ls.length := List.length_pos_iff.2 h0; omega⟩
  rw [hn1] at h1 h3
  obtain ⟨x, t, v, hlx, hvx, ⟨a, m, c, rfl⟩, hdx⟩ := h1.cons (i := 0) (by omega)
  obtain ⟨y, s, u, hly, hvy, hsy, hdy⟩ := h1.cons (i := n) (by omega)
  have hmin : ∀ k ∈ ls, ∀ y, k.head? = some y → cmpS x y ≤ 0 := fun k hk z hz => by
    obtain ⟨i, hi, e⟩ := List.mem_iff_getElem.1 (h2.mem_iff.2 hk)
    have := Hp.heap_min leR_tot leR_tr h3 i (by omega)
    cases k with
    | nil => cases hz
    | cons p q =>
      cases hz
      rw [hdx, hdR_of (ls := ls') (k := i) (by rw [List.getElem?_eq_getElem hi, e])] at this
      exact this
  have hA := (h1.lists.each 0 _ _ hvx hlx).1
  have m1 := methR_swap
  have m2 := methR_len
  have m3 := methR_pop
  have C1 := hide (lenR_any W h1.rst)
  rw [show vs.length = n + 1 by omega] at C1
  have C2 : Hid (∀ J : Int, J = (n : Int) → Calls Tryz.prog 231 #[.pointer (some ⟨hb, 0, none⟩), .int .i64 0, .int .i64 J] W fun e w' => e = .returned (.tuple #[]) ∧ RstR w0 K w' hb lv ((vs.set 0 u).set n (.slice a m c))) := fun J hJ => by
    subst hJ
    exact swapR_any W h1.rst 0 n hvx hvy ⟨_, _, _, rfl⟩ hsy
  have hl1 := h1.lists.swap hvx hvy hlx hly
  have hd1 : Hp.DownInv leR (hdR ((ls'.set 0 (y :: s)).set n (x :: t))) n 0 := by
    refine Hp.down_start h3 fun k hk0 hk => ?_
    rw [hdR_swap hlx hly]
    unfold Hp.swp
    rw [if_neg (by omega), if_neg (by omega)]
  have hlast : ((ls'.set 0 (y :: s)).set n (x :: t))[n]? = some (x :: t) := by rw [List.getElem?_set_self (by simp; omega)]
  have hvlast : ((vs.set 0 u).set n (.slice a m c))[n]? = some (.slice a m c) := by rw [List.getElem?_set_self (by simp; omega)]
  have hperm := (Hp.set_swap_perm ls' 0 n _ _ hlx hly).trans h2
  have HA := hide hA
  have HMin := hide hmin
  have HL1 := hide hl1
  have HD1 := hide hd1
  have HLast := hide hlast
  have HVLast := hide hvlast
  have HPerm := hide hperm
  have HSm := hide hsm
  have HLen1 : Hid (((ls'.set 0 (y :: s)).set n (x :: t)).length = n + 1) := by show _ = _; simp [hn1]
  have HVLen1 : Hid (((vs.set 0 u).set n (.slice a m c)).length = n + 1) := by show _ = _; simp; omega
  clear h1 h2 h3 hl1 hd1 hlast hvlast hperm hmin hA hsm hlx hly hvx hvy hsy hdx hdy
  generalize (ls'.set 0 (y :: s)).set n (x :: t) = ls1 at *
  generalize (vs.set 0 u).set n (.slice a m c) = vs1 at *
  go_enter Tryz.func166, Tryz.ntmps166
  go_wp2_with fail
  refine C1.out.mono ?_
  rintro e w1 ⟨rfl, rfl⟩
  clear C1
  go_wp2_with fail
  refine (C2.out _ (by omega)).mono ?_
  rintro e w2 ⟨rfl, hr2⟩
  have C3 : Hid (∀ J : Int, J = (n : Int) → Calls Tryz.prog 197 #[.iface 170 (.pointer (some ⟨hb, 0, none⟩)), .int .i64 0, .int .i64 J] w2 fun e w' => (∃ r, e = .returned (.bool r)) ∧ ∃ vs' ls', HsR w0 K w' hb (n + 1) lv vs' ls' ∧ ls'.Perm ls1 ∧ Hp.IsHeap leR (hdR ls') n ∧ vs'[n]? = vs1[n]? ∧ ls'[n]? = ls1[n]?) := fun J hJ => by
    subst hJ
    exact downR_any w2 ⟨hr2, HL1.out, HLen1.out⟩ (fun k hk x hx => HSm.out k (HPerm.out.mem_iff.1 hk) x hx) (by omega) HD1.out
  clear hr2 C2
  go_wp2_with fail
  refine (C3.out _ (by omega)).mono ?_
  rintro e w3 ⟨⟨rb, rfl⟩, vs3, ls3, h4, h5, h6, h7, h8⟩
  have hv3 := take_last (h7.trans HVLast.out) (by rw [h4.lists.len, h4.len])
  have hl3 := take_last (h8.trans HLast.out) h4.len
  have hr3 := h4.rst
  rw [hv3] at hr3
  have hl3n : (ls3.take n).length = n := by rw [List.length_take, h4.len]; omega
  have hv3n : (vs3.take n).length = n := by rw [List.length_take, h4.lists.len, h4.len]; omega
  have C4 := hide (popR_any w3 hr3 (by omega))
  have HL3 := hide (h4.lists.cut n)
  have HP3 : Hid (ls.Perm ((x :: t) :: ls3.take n)) := by
    have := (h5.trans HPerm.out).symm
    rw [hl3] at this
    exact this.trans List.perm_append_comm
  have HH3 : Hid (Hp.IsHeap leR (hdR (ls3.take n)) n) := fun k hk0 hk => by
    have e : ∀ q, q < n → hdR (ls3.take n) q = hdR ls3 q := fun q hq => by
      unfold hdR; rw [List.getD_eq_getElem?_getD, List.getD_eq_getElem?_getD, List.getElem?_take, if_pos hq]
    rw [e _ (by omega), e _ hk]; exact h6 k hk0 hk
  clear h4 h5 h6 h7 h8 hv3 hl3 hr3 C3
  go_wp2_with fail
  refine C4.out.mono ?_
  rintro e w4 ⟨rfl, lv4, hr4⟩
  have HF : Hid (HeapR w0 K w4 hb (ls3.take n)) := ⟨lv4, vs3.take n, ls3.take n, by rw [hl3n]; exact ⟨hr4, HL3.out, hl3n⟩, List.Perm.refl _, by rw [hl3n]; exact HH3.out⟩
  clear hr4 C4
  go_wp2
  go_ret
  exact ⟨a, m, c, x, t, ls3.take n, rfl, HA.out, HP3.out, HMin.out, HF.out⟩
end Go.Proofs.YtamcclcbmenjdaaGreatDoor

/- A batch without its first. -/
namespace Go.Proofs.YtamcclcbmenjdaaGreatDoor
open Go.RowKit Go.Lib
theorem BatchAt.tail {w : World} {B b o k n : Nat} {x : Ser} {r : List Ser} (h : BatchAt w B (.slice (some ⟨b, o, none⟩) n k) (x :: r)) : n = r.length + 1 ∧ r.length ≤ k - 1 ∧ BatchAt w B (.slice (some ⟨b, o + 2, none⟩) r.length (k - 1)) r := by
  obtain ⟨a, cap, e, hc, h2⟩ := h
  cases e
  have hc' : r.length + 1 ≤ k := hc
  refine ⟨rfl, by omega, _, _, rfl, by omega, ?_⟩
  rcases h2 with h2 | ⟨b', o', e, hb, hcell⟩
  · cases h2
  · cases e
    refine .inr ⟨b, o + 2, rfl, hb, fun i y hy => ?_⟩
    have := hcell (i + 1) y (by rw [List.getElem?_cons_succ]; exact hy)
    rw [show o + (i + 1) * 2 = o + 2 + i * 2 by omega] at this
    exact this
theorem BatchAt.none (w : World) (B : Nat) (a : Option Addr) (q : Nat) : BatchAt w B (.slice a 0 q) [] := ⟨a, q, rfl, Nat.zero_le _, .inl rfl⟩
end Go.Proofs.YtamcclcbmenjdaaGreatDoor

/- join's rests (of series): add, takeLeast. -/
namespace Go.Proofs.YtamcclcbmenjdaaGreatDoor
open Go.RowKit Go.Lib

set_option maxRecDepth 100000 in
set_option maxHeartbeats 1000000 in
theorem addR_any {w0 : World} {K : Nat → Obj → Prop} {hb : Nat} {ls : List (List Ser)} (W : World) (h : HeapR w0 K W hb ls) (a : Option Addr) (c : Nat) (l : List Ser) (hv : BatchAt w0 w0.heap.size (.slice a l.length c) l) (hsm : ∀ k ∈ l :: ls, ∀ x ∈ k, SmR x) (hn : ls.length ≤ 1000000000) :
    Calls Tryz.prog 139 #[.pointer (some ⟨hb, 0, none⟩), .slice a l.length c] W fun e w' => e = .returned (.tuple #[]) ∧ HeapR w0 K w' hb (restOf l ls) := by
  cases l with
  | nil =>
    have HH : Hid (HeapR w0 K W hb (restOf [] ls)) := by show HeapR w0 K W hb (restOf [] ls); rw [restOf, if_pos rfl]; exact h
    clear h hv hsm
    go_enter Tryz.func139, Tryz.ntmps139
    go_wp2
    go_end0
    exact ⟨rfl, HH.out⟩
  | cons x t =>
    have C := hide (heapPushR_any W h a (x :: t).length c (x :: t) hv (by simp) hsm hn)
    have hlen : (x :: t).length = t.length + 1 := rfl
    rw [hlen] at C ⊢
    clear h hv hsm hlen
    go_enter Tryz.func139, Tryz.ntmps139
    go_wp2_with fail
    refine C.out.mono ?_
    rintro e w1 ⟨rfl, h1⟩
    have HH : Hid (HeapR w0 K w1 hb (restOf (x :: t) ls)) := by show HeapR w0 K w1 hb (restOf (x :: t) ls); rw [restOf, if_neg (by simp)]; exact h1
    clear h1 C
    go_wp2
    go_end0
    exact ⟨rfl, HH.out⟩


/-- One more block to keep. -/
theorem HeapR.more {w0 : World} {K : Nat → Obj → Prop} {W : World} {hb : Nat} {ls : List (List Ser)} (h : HeapR w0 K W hb ls) (ob : Obj) : HeapR w0 (fun k o => K k o ∨ k = W.heap.size ∧ o = ob) (W.alloc ob) hb ls := by
  refine h.move (by simp) (fun k hk _ => heap_alloc_old W _ hk) (fun k o hk => ?_) (h.below.alloc h.below.size _)
  rcases hk with hk | ⟨rfl, rfl⟩
  · exact ⟨(heap_alloc_old W _ (lt_of_heapR (h.kp hk))).trans (h.kp hk), .inl ⟨o, hk⟩⟩
  · exact ⟨alloc_heap_new W _, .inr (Nat.le_refl _)⟩
/-- Fewer blocks to keep, one of the others written. -/
theorem HeapR.less {w0 : World} {K K' : Nat → Obj → Prop} {W : World} {hb : Nat} {ls : List (List Ser)} (h : HeapR w0 K W hb ls) (hk : ∀ k o, K' k o → K k o) : HeapR w0 K' W hb ls :=
  h.move (Nat.le_refl _) (fun _ _ _ => rfl) (fun k o ho => ⟨h.kp (hk k o ho), .inl ⟨o, hk k o ho⟩⟩) h.below
theorem HeapR.lt {w0 : World} {K : Nat → Obj → Prop} {W : World} {hb : Nat} {ls : List (List Ser)} (h : HeapR w0 K W hb ls) : hb < W.heap.size := by
  obtain ⟨lv, vs, ls', h1, _⟩ := h; exact h1.rst.lt

theorem results_cell1R {fn : Func} {p : Tmp} {ty : TypeId} (h : fn.results = #[.cell p ty]) (tmps : Array Value) (P : Program) (w : World) :
    (results fn tmps).run P w = ((asAddr (tmps.getD p undef)).run P w).andThen fun a w₁ => (loadVar ty a).run P w₁ := by
  simp only [results, h]
  simp [Sem.run_bind, Result.andThen]

set_option maxRecDepth 100000 in
set_option maxHeartbeats 1000000 in
theorem takeLeastR_any {w0 : World} {K : Nat → Obj → Prop} {hb : Nat} {ls : List (List Ser)} (W : World) (h : HeapR w0 K W hb ls) (hsm : ∀ k ∈ ls, ∀ x ∈ k, SmR x) (hn : ls.length ≤ 1000000000) (h0 : ls ≠ []) :
    Calls Tryz.prog 141 #[.pointer (some ⟨hb, 0, none⟩)] W fun e w' => ∃ a0 a1 x t ms, e = .returned (.agg #[a0, a1]) ∧ ElR w0 x a0 a1 ∧ ls.Perm ((x :: t) :: ms) ∧ (∀ k ∈ ls, ∀ y, k.head? = some y → cmpS x y ≤ 0) ∧ HeapR w0 K w' hb (restOf t ms) ∧ W.heap.size ≤ w'.heap.size := by
  have hta := assertR
  have HK := hide h
  have hws := h.below.size
  obtain ⟨K', hK', HIn⟩ : ∃ K', HeapR w0 K' (W.alloc (.cells #[(.slice none 0 0), (.slice none 0 0)] 38)) hb ls ∧ Hid (∀ k o, K' k o ↔ K k o ∨ k = W.heap.size ∧ o = .cells #[(.slice none 0 0), (.slice none 0 0)] 38) := ⟨_, h.more _, fun k o => Iff.rfl⟩
  have C1 := hide (heapPopR_any (W.alloc (.cells #[(.slice none 0 0), (.slice none 0 0)] 38)) hK' hsm hn h0)
  clear hK'
  have HSm := hide hsm
  clear h hsm
  go_enter Tryz.func141, Tryz.ntmps141
  go_wp2_with fail
  refine C1.out.mono ?_
  rintro e w1 ⟨a, m, c, x, t, ms, rfl, hA, hP, hM, hH⟩
  obtain ⟨b, o, k, a0, a1, he, hb0, p0, p1, hE⟩ := hA.head
  cases he
  obtain ⟨_, hk1, hT⟩ := hA.tail
  have hml : ms.length ≤ 1000000000 := by have := hP.length_eq; simp at this; omega
  have C2 : Hid (∀ A q, (t = [] ∨ A = ⟨b, o + 2, none⟩ ∧ q = c - 1) → Calls Tryz.prog 139 #[.pointer (some ⟨hb, 0, none⟩), .slice (some A) t.length q] w1 fun e w' => e = .returned (.tuple #[]) ∧ HeapR w0 K' w' hb (restOf t ms)) := fun A q hq => by
    refine addR_any w1 hH _ _ t ?_ (fun q hq y hy => by
      rcases List.mem_cons.1 hq with rfl | hq
      · exact HSm.out _ (hP.mem_iff.2 (List.mem_cons_self ..)) y (List.mem_cons_of_mem _ hy)
      · exact HSm.out q (hP.mem_iff.2 (List.mem_cons_of_mem _ hq)) y hy) hml
    rcases hq with rfl | ⟨rfl, rfl⟩
    · exact BatchAt.none _ _ _ _
    · exact hT
  have hc1 : Hid (c = 1 → t = []) := fun e => List.length_eq_zero_iff.1 (by omega)
  have HE := hide hE
  have HP := hide hP
  have HM := hide hM
  clear hE hP hM hH hA hT C1
  go_wp2_with fail
  all_goals
    refine (C2.out _ _ (by first | exact .inr ⟨rfl, rfl⟩ | (left; apply hc1.out; first | assumption | rfl | omega))).mono ?_
    rintro e w2 ⟨rfl, hH⟩
    have hr := hH.kp ((HIn.out _ _).2 (.inr ⟨rfl, rfl⟩))
    have r0 : w2.cell? ⟨W.heap.size, 0, none⟩ = some (.slice none 0 0) := by simp [World.cell?, hr]
    have r1 : w2.cell? ⟨W.heap.size, 1, none⟩ = some (.slice none 0 0) := by simp [World.cell?, hr]
    have fr0 : w2.frozen? ⟨W.heap.size, 0, none⟩ = false := by simp [World.frozen?, hr]
    have fr1 : w2.frozen? ⟨W.heap.size, 1, none⟩ = false := by simp [World.frozen?, hr]
    have m0 := (hH.below.cell (p := ⟨b, o, none⟩) hb0).trans p0
    have m1 := (hH.below.cell (p := ⟨b, o + 1, none⟩) hb0).trans p1
    have hsz := lt_of_heapR hr
    have HF : Hid (∀ u v, HeapR w0 K ((w2.setCell ⟨W.heap.size, 0, none⟩ u).setCell ⟨W.heap.size, 1, none⟩ v) hb (restOf t ms)) := fun u v => by
      refine hH.move (by simp) (fun k hk hn => ?_) (fun k o hk => ?_) ((hH.below.setCell hws _).setCell hws _)
      · have hne : k ≠ W.heap.size := fun e => hn _ ((HIn.out _ _).2 (.inr ⟨e, rfl⟩))
        exact (Below.heap_setCell _ _ _ k hne).trans (Below.heap_setCell _ _ _ k hne)
      · have hne : k ≠ W.heap.size := fun e => by
          have := lt_of_heapR (HK.out.kp hk); omega
        exact ⟨(Below.heap_setCell _ _ _ k hne).trans ((Below.heap_setCell _ _ _ k hne).trans (hH.kp ((HIn.out _ _).2 (.inl hk)))), .inl ⟨o, (HIn.out _ _).2 (.inl hk)⟩⟩
    clear hH hr p0 p1 hc1 C2
    obtain ⟨⟨la1, lc1, rfl, -⟩, sa1, sc1, rfl, -⟩ := id HE.out
    go_wp2
    (try simp only [Exit.inBlock, Exit.then])
    refine bodyPost_ret (v := .agg #[(.slice la1 x.1.length lc1), (.slice sa1 x.2.length sc1)]) (by rw [results_cell1R rfl]; go_simp) rfl ?_
    exact ⟨_, _, x, t, ms, rfl, HE.out, HP.out, HM.out, HF.out _ _, by simp; omega⟩
end Go.Proofs.YtamcclcbmenjdaaGreatDoor

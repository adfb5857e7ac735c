/- 'choirlaw.Joins', for any two lists of series of bulk at most 1048576: Join answers the document's join or error, either way round; what is handed in stays, what comes out is its owner's. The second form's statement: its only condition is the row's own bound on the arguments' bulk. -/
import Derived.Test.YtcidgfdiacehmaaJoinsuptoG27
/- join's rests (of series): add, takeLeast. -/
namespace Go.Proofs.Ytcidgfdiacehmaa
open Go.RowKit Go.Lib

set_option maxRecDepth 100000 in
set_option maxHeartbeats 1000000 in
theorem addR_any {w0 : World} {K : Nat → Obj → Prop} {hb : Nat} {ls : List (List Ser)} (W : World) (h : HeapR w0 K W hb ls) (a : Option Addr) (c : Nat) (l : List Ser) (hv : BatchAt w0 w0.heap.size (.slice a l.length c) l) (hsm : ∀ k ∈ l :: ls, ∀ x ∈ k, SmR x) (hn : ls.length ≤ 1000000000) :
    Calls Try.prog 48 #[.pointer (some ⟨hb, 0, none⟩), .slice a l.length c] W fun e w' => e = .returned (.tuple #[]) ∧ HeapR w0 K w' hb (restOf l ls) := by
  cases l with
  | nil =>
    have HH : Hid (HeapR w0 K W hb (restOf [] ls)) := by show HeapR w0 K W hb (restOf [] ls); rw [restOf, if_pos rfl]; exact h
    clear h hv hsm
    go_enter Try.func48, Try.ntmps48
    go_wp2
    go_end0
    exact ⟨rfl, HH.out⟩
  | cons x t =>
    have C := hide (heapPushR_any W h a (x :: t).length c (x :: t) hv (by simp) hsm hn)
    have hlen : (x :: t).length = t.length + 1 := rfl
    rw [hlen] at C ⊢
    clear h hv hsm hlen
    go_enter Try.func48, Try.ntmps48
    go_wp2_with fail
    refine C.out.mono ?_
    rintro e w1 ⟨rfl, h1⟩
    have HH : Hid (HeapR w0 K w1 hb (restOf (x :: t) ls)) := by show HeapR w0 K w1 hb (restOf (x :: t) ls); rw [restOf, if_neg (by simp)]; exact h1
    clear h1 C
    go_wp2
    go_end0
    exact ⟨rfl, HH.out⟩


/-- One more block to keep. -/
theorem HeapR.more {w0 : World} {K : Nat → Obj → Prop} {W : World} {hb : Nat} {ls : List (List Ser)} (h : HeapR w0 K W hb ls) (ob : Obj) : HeapR w0 (fun k o => K k o ∨ k = W.heap.size ∧ o = ob) (W.alloc ob) hb ls := by
  refine h.move (by simp) (fun k hk _ => heap_alloc_old W _ hk) (fun k o hk => ?_) (h.below.alloc h.below.size _)
  rcases hk with hk | ⟨rfl, rfl⟩
  · exact ⟨(heap_alloc_old W _ (lt_of_heapR (h.kp hk))).trans (h.kp hk), .inl ⟨o, hk⟩⟩
  · exact ⟨alloc_heap_new W _, .inr (Nat.le_refl _)⟩
/-- Fewer blocks to keep, one of the others written. -/
theorem HeapR.less {w0 : World} {K K' : Nat → Obj → Prop} {W : World} {hb : Nat} {ls : List (List Ser)} (h : HeapR w0 K W hb ls) (hk : ∀ k o, K' k o → K k o) : HeapR w0 K' W hb ls :=
  h.move (Nat.le_refl _) (fun _ _ _ => rfl) (fun k o ho => ⟨h.kp (hk k o ho), .inl ⟨o, hk k o ho⟩⟩) h.below
theorem HeapR.lt {w0 : World} {K : Nat → Obj → Prop} {W : World} {hb : Nat} {ls : List (List Ser)} (h : HeapR w0 K W hb ls) : hb < W.heap.size := by
  obtain ⟨lv, vs, ls', h1, _⟩ := h; exact h1.rst.lt

theorem results_cell1R {fn : Func} {p : Tmp} {ty : TypeId} (h : fn.results = #[.cell p ty]) (tmps : Array Value) (P : Program) (w : World) :
    (results fn tmps).run P w = ((asAddr (tmps.getD p undef)).run P w).andThen fun a w₁ => (loadVar ty a).run P w₁ := by
  simp only [results, h]
  simp [Sem.run_bind, Result.andThen]

set_option maxRecDepth 100000 in
set_option maxHeartbeats 1000000 in
theorem takeLeastR_any {w0 : World} {K : Nat → Obj → Prop} {hb : Nat} {ls : List (List Ser)} (W : World) (h : HeapR w0 K W hb ls) (hsm : ∀ k ∈ ls, ∀ x ∈ k, SmR x) (hn : ls.length ≤ 1000000000) (h0 : ls ≠ []) :
    Calls Try.prog 51 #[.pointer (some ⟨hb, 0, none⟩)] W fun e w' => ∃ a0 a1 x t ms, e = .returned (.agg #[a0, a1]) ∧ ElR w0 x a0 a1 ∧ ls.Perm ((x :: t) :: ms) ∧ (∀ k ∈ ls, ∀ y, k.head? = some y → cmpS x y ≤ 0) ∧ HeapR w0 K w' hb (restOf t ms) ∧ W.heap.size ≤ w'.heap.size := by
  have hta := assertR
  have HK := hide h
  have hws := h.below.size
  obtain ⟨K', hK', HIn⟩ : ∃ K', HeapR w0 K' (W.alloc (.cells #[(.slice none 0 0), (.slice none 0 0)] 37)) hb ls ∧ Hid (∀ k o, K' k o ↔ K k o ∨ k = W.heap.size ∧ o = .cells #[(.slice none 0 0), (.slice none 0 0)] 37) := ⟨_, h.more _, fun k o => Iff.rfl⟩
  have C1 := hide (heapPopR_any (W.alloc (.cells #[(.slice none 0 0), (.slice none 0 0)] 37)) hK' hsm hn h0)
  clear hK'
  have HSm := hide hsm
  clear h hsm
  go_enter Try.func51, Try.ntmps51
  go_wp2_with fail
  refine C1.out.mono ?_
  rintro e w1 ⟨a, m, c, x, t, ms, rfl, hA, hP, hM, hH⟩
  obtain ⟨b, o, k, a0, a1, he, hb0, p0, p1, hE⟩ := hA.head
  cases he
  obtain ⟨_, hk1, hT⟩ := hA.tail
  have hml : ms.length ≤ 1000000000 := by have := hP.length_eq; simp at this; omega
  have C2 : Hid (∀ A q, (t = [] ∨ A = ⟨b, o + 2, none⟩ ∧ q = c - 1) → Calls Try.prog 48 #[.pointer (some ⟨hb, 0, none⟩), .slice (some A) t.length q] w1 fun e w' => e = .returned (.tuple #[]) ∧ HeapR w0 K' w' hb (restOf t ms)) := fun A q hq => by
    refine addR_any w1 hH _ _ t ?_ (fun q hq y hy => by
      rcases List.mem_cons.1 hq with rfl | hq
      · exact HSm.out _ (hP.mem_iff.2 (List.mem_cons_self ..)) y (List.mem_cons_of_mem _ hy)
      · exact HSm.out q (hP.mem_iff.2 (List.mem_cons_of_mem _ hq)) y hy) hml
    rcases hq with rfl | ⟨rfl, rfl⟩
    · exact BatchAt.none _ _ _ _
    · exact hT
  have hc1 : Hid (c = 1 → t = []) := fun e => List.length_eq_zero_iff.1 (by omega)
  have HE := hide hE
  have HP := hide hP
  have HM := hide hM
  clear hE hP hM hH hA hT C1
  go_wp2_with fail
  all_goals
    refine (C2.out _ _ (by first | exact .inr ⟨rfl, rfl⟩ | (left; apply hc1.out; first | assumption | rfl | omega))).mono ?_
    rintro e w2 ⟨rfl, hH⟩
    have hr := hH.kp ((HIn.out _ _).2 (.inr ⟨rfl, rfl⟩))
    have r0 : w2.cell? ⟨W.heap.size, 0, none⟩ = some (.slice none 0 0) := by simp [World.cell?, hr]
    have r1 : w2.cell? ⟨W.heap.size, 1, none⟩ = some (.slice none 0 0) := by simp [World.cell?, hr]
    have fr0 : w2.frozen? ⟨W.heap.size, 0, none⟩ = false := by simp [World.frozen?, hr]
    have fr1 : w2.frozen? ⟨W.heap.size, 1, none⟩ = false := by simp [World.frozen?, hr]
    have m0 := (hH.below.cell (p := ⟨b, o, none⟩) hb0).trans p0
    have m1 := (hH.below.cell (p := ⟨b, o + 1, none⟩) hb0).trans p1
    have hsz := lt_of_heapR hr
    have HF : Hid (∀ u v, HeapR w0 K ((w2.setCell ⟨W.heap.size, 0, none⟩ u).setCell ⟨W.heap.size, 1, none⟩ v) hb (restOf t ms)) := fun u v => by
      refine hH.move (by simp) (fun k hk hn => ?_) (fun k o hk => ?_) ((hH.below.setCell hws _).setCell hws _)
      · have hne : k ≠ W.heap.size := fun e => hn _ ((HIn.out _ _).2 (.inr ⟨e, rfl⟩))
        exact (Below.heap_setCell _ _ _ k hne).trans (Below.heap_setCell _ _ _ k hne)
      · have hne : k ≠ W.heap.size := fun e => by
          have := lt_of_heapR (HK.out.kp hk); omega
        exact ⟨(Below.heap_setCell _ _ _ k hne).trans ((Below.heap_setCell _ _ _ k hne).trans (hH.kp ((HIn.out _ _).2 (.inl hk)))), .inl ⟨o, (HIn.out _ _).2 (.inl hk)⟩⟩
    clear hH hr p0 p1 hc1 C2
    obtain ⟨⟨la1, lc1, rfl, -⟩, sa1, sc1, rfl, -⟩ := id HE.out
    go_wp2
    (try simp only [Exit.inBlock, Exit.then])
    refine bodyPost_ret (v := .agg #[(.slice la1 x.1.length lc1), (.slice sa1 x.2.length sc1)]) (by rw [results_cell1R rfl]; go_simp) rfl ?_
    exact ⟨_, _, x, t, ms, rfl, HE.out, HP.out, HM.out, HF.out _ _, by simp; omega⟩
end Go.Proofs.Ytcidgfdiacehmaa

/- join's rests (of series): takeAlike. -/
namespace Go.Proofs.Ytcidgfdiacehmaa
open Go.RowKit Go.Lib

theorem Try.infoElR : (Try.prog.info? 37).map (fun i => (i.zero, i.size, i.bytes)) = some (some (.agg #[(.slice none 0 0), (.slice none 0 0)]), 2, 48) := by kernel_rfl
/-- What the heap's top is in memory. -/
theorem HeapR.top {w0 : World} {K : Nat → Obj → Prop} {W : World} {hb : Nat} {ms : List (List Ser)} (h : HeapR w0 K W hb ms) (h0 : ms ≠ []) :
    ∃ g n c y t b o k a0 a1, W.cell? ⟨hb, 0, none⟩ = some (.slice (some ⟨g, 0, none⟩) n c) ∧ n = ms.length ∧ W.cell? ⟨g, 0, none⟩ = some (.slice (some ⟨b, o, none⟩) (t.length + 1) k) ∧ b < w0.heap.size ∧ w0.cell? ⟨b, o, none⟩ = some a0 ∧ w0.cell? ⟨b, o + 1, none⟩ = some a1 ∧ ElR w0 y a0 a1 ∧ (y :: t) ∈ ms ∧ (∀ k ∈ ms, ∀ z, k.head? = some z → cmpS y z ≤ 0) ∧ g < W.heap.size := by
  obtain ⟨lv, vs, ls', h1, h2, h3⟩ := h
  have hlen := h2.length_eq
  have hvl := h1.lists.len
  have hpos : 0 < ls'.length := by rw [hlen]; exact List.length_pos_iff.2 h0
  obtain ⟨y, t, v, hlx, hvx, _, hdx⟩ := h1.cons (i := 0) hpos
  obtain ⟨b, o, k, a0, a1, rfl, hb0, p0, p1, hE⟩ := (h1.lists.each 0 _ _ hvx hlx).1.head
  obtain ⟨g, c, rfl, g1, _, _, _, hgl⟩ := h1.rst.get hvx
  refine ⟨g, _, c, y, t, b, o, k, a0, a1, h1.rst.c0, by omega, g1, hb0, p0, p1, hE, h2.mem_iff.1 (List.mem_of_getElem? hlx), fun k hk z hz => ?_, hgl⟩
  obtain ⟨i, hi, e⟩ := List.mem_iff_getElem.1 (h2.mem_iff.2 hk)
  have := Hp.heap_min leR_tot leR_tr h3 i (by omega)
  cases k with
  | nil => cases hz
  | cons p q =>
    cases hz
    rw [hdx, hdR_of (ls := ls') (k := i) (by rw [List.getElem?_eq_getElem hi, e])] at this
    exact this
theorem HeapR.c1 {w0 : World} {K : Nat → Obj → Prop} {W : World} {hb : Nat} {ms : List (List Ser)} (h : HeapR w0 K W hb ms) : W.cell? ⟨hb, 1, none⟩ = some (.func (.func 42) #[] #[]) := by
  obtain ⟨lv, vs, ls', h1, _⟩ := h; exact h1.rst.c1
theorem heapLenR_any {w0 : World} {K : Nat → Obj → Prop} {hb : Nat} {ms : List (List Ser)} (W : World) (h : HeapR w0 K W hb ms) :
    Calls Try.prog 43 #[.pointer (some ⟨hb, 0, none⟩)] W fun e w' => e = .returned (.int .i64 ms.length) ∧ W = w' := by
  obtain ⟨lv, vs, ls', h1, h2, _⟩ := h
  have := lenR_any W h1.rst
  rw [h1.lists.len, h2.length_eq] at this
  exact this.mono fun e w' ⟨a, b⟩ => ⟨a, b.symm⟩

/-- A row of its own with the cells of elements. -/
structure RowR (w0 W : World) (av : Value) (aa : List Ser) : Prop where
  row : ∃ vals : List (Value × Value), vals.length = aa.length ∧ W.ownsRow w0.heap.size 37 2 av aa.length (serCells vals) ∧ ∀ (i : Nat) (p : Value × Value) (x : Ser), vals[i]? = some p → aa[i]? = some x → ElR w0 x p.1 p.2
theorem RowR.kept {w0 W W' : World} {av : Value} {aa : List Ser} (h : RowR w0 W av aa) (hk : ∀ k, av.ownBlock = some k → W'.heap[k]? = W.heap[k]?) : RowR w0 W' av aa := by
  obtain ⟨vals, h1, h2, h3⟩ := h.row
  exact ⟨vals, h1, own_kept h2 hk, h3⟩
theorem RowR.first {w0 W : World} {g n cap : Nat} {x : Ser} {aa : List Ser} (h : RowR w0 W (.slice (some ⟨g, 0, none⟩) n cap) (x :: aa)) : ∃ z0 z1, W.cell? ⟨g, 0, none⟩ = some z0 ∧ W.cell? ⟨g, 1, none⟩ = some z1 ∧ ElR w0 x z0 z1 ∧ g < W.heap.size := by
  obtain ⟨vals, h1, h2, h3⟩ := h.row
  obtain ⟨a, c, e⟩ := own_shape h2
  cases e
  cases vals with
  | nil => simp at h1
  | cons p r =>
    have hp := pair_get (fun x : Value × Value => x.1) (fun x => x.2) (p :: r) 0 p rfl
    exact ⟨p.1, p.2, own_cell h2 hp.1, own_cell h2 hp.2, h3 0 p x rfl rfl, (World.ownsRow.lt h2 g rfl).2⟩
/-- The heap, and a row beside it. -/
structure AlkR (w0 : World) (K : Nat → Obj → Prop) (W : World) (hb g n cap : Nat) (aa : List Ser) (ms : List (List Ser)) : Prop where
  row : RowR w0 W (.slice (some ⟨g, 0, none⟩) n cap) aa
  heap : HeapR w0 (fun k o => K k o ∨ k = g ∧ W.heap[k]? = some o) W hb ms
  out : ∀ o, ¬ K g o

set_option maxRecDepth 100000 in
set_option maxHeartbeats 1000000 in
theorem takeAlikeR_any {w0 : World} {K : Nat → Obj → Prop} {hb : Nat} {ls : List (List Ser)} (W : World) (h : HeapR w0 K W hb ls) (hsm : ∀ k ∈ ls, ∀ x ∈ k, SmR x) (hn : ls.length ≤ 1000000000) (hfl : ls.flatten.length ≤ 1000000000000) (hr : Rests cmpS ls) (h0 : ls ≠ []) :
    Calls Try.prog 45 #[.pointer (some ⟨hb, 0, none⟩)] W fun e w' => ∃ av x aa ms, e = .returned av ∧ RowR w0 w' av (x :: aa) ∧ Alike cmpS ls x (x :: aa) ms ∧ (∀ y ∈ ms.flatten, cmpS x y = -1) ∧ HeapR w0 K w' hb ms ∧ W.heap.size ≤ w'.heap.size ∧ ms.length ≤ 1000000000 := by
  obtain ⟨i0, hi, hz0, hz1, hz2⟩ := info_parts Try.infoElR
  have C1 := hide (takeLeastR_any W h hsm hn h0)
  have HSm := hide hsm
  clear h hsm
  go_enter Try.func45, Try.ntmps45
  go_wp2_with fail
  refine C1.out.mono ?_
  rintro e w1 ⟨a0, a1, x, t, ms, rfl, hE, hP, hM, hH, hsz⟩
  obtain ⟨⟨la1, lc1, rfl, -⟩, sa1, sc1, rfl, -⟩ := id hE
  clear C1
  have HR0 : Hid (RowR w0 (w1.alloc (.cells #[(.slice la1 x.1.length lc1), (.slice sa1 x.2.length sc1)] 37)) (.slice (some ⟨w1.heap.size, 0, none⟩) 1 1) [x]) := ⟨[((.slice la1 x.1.length lc1), (.slice sa1 x.2.length sc1))], rfl, ⟨rfl, .inr ⟨w1.heap.size, 1, #[(.slice la1 x.1.length lc1), (.slice sa1 x.2.length sc1)], rfl, hH.below.size, alloc_heap_new _ _, Nat.le_refl _, by decide, rfl, rfl⟩⟩, fun i p y hp hy => by
    cases i with
    | zero => cases hp; cases hy; exact hE
    | succ i => simp at hp⟩
  have HA0 : Hid (AlkR w0 K (w1.alloc (.cells #[(.slice la1 x.1.length lc1), (.slice sa1 x.2.length sc1)] 37)) hb w1.heap.size 1 1 [x] (restOf t ms)) := ⟨HR0.out, (hH.more _).move (Nat.le_refl _) (fun _ _ _ => rfl) (fun k o hk => by
      rcases hk with hk | ⟨rfl, hk⟩
      · exact ⟨(hH.more _).kp (.inl hk), .inl ⟨o, .inl hk⟩⟩
      · exact ⟨hk, .inl ⟨_, .inr ⟨rfl, rfl⟩⟩⟩) (hH.more _).below, fun o ho => by have := lt_of_heapR (hH.kp ho); omega⟩
  have HL0 := hide (Alike.first cmpS_ok hr hP (List.Perm.refl _) hM)
  have HRs := hide hr
  have HFl : Hid (∀ aa ms, Alike cmpS ls x (x :: aa) ms → aa.length + 1 + ms.flatten.length = ls.flatten.length) := fun aa ms h => by have := h.perm.length_eq; simp only [List.length_append, List.length_cons] at this; omega
  have HW0 : Hid (W.heap.size ≤ (w1.alloc (.cells #[(.slice la1 x.1.length lc1), (.slice sa1 x.2.length sc1)] 37)).heap.size) := by show W.heap.size ≤ (w1.alloc _).heap.size; simp; omega
  have HN0 : Hid ((restOf t ms).length ≤ 1000000000) := by show (restOf t ms).length ≤ 1000000000; have := restOf_len t ms; have := hP.length_eq; simp at this; omega
  clear HR0 hH hP hM hE hr
  go_wp2_with fail
  go_loopw [3] (fun av wr => ∃ (g cap : Nat) (aa : List Ser) (ms : List (List Ser)), av = .slice (some ⟨g, 0, none⟩) (aa.length + 1) cap ∧ Hid (AlkR w0 K wr hb g (aa.length + 1) cap (x :: aa) ms) ∧ Hid (Alike cmpS ls x (x :: aa) ms) ∧ Hid (W.heap.size ≤ wr.heap.size) ∧ Hid (ms.length ≤ 1000000000)) (fun av _ => ls.flatten.length - sliceLen av)
  case atStart => exact ⟨_, _, [], _, rfl, HA0.out, HL0.out, HW0.out, HN0.out⟩
  case round =>
    clear HA0 HL0 HW0 HN0
    obtain ⟨g, cap, aa, ns, rfl, HA, HL, HW, HN⟩ := hrel
    have CLen : Hid (∀ W2 : World, Below wr.heap.size wr W2 → Calls Try.prog 43 #[.pointer (some ⟨hb, 0, none⟩)] W2 fun e w' => e = .returned (.int .i64 ns.length) ∧ W2 = w') := fun W2 h2 => heapLenR_any W2 (HA.out.heap.kept h2)
    by_cases hns : ns = []
    · subst hns
      have HH := hide (HA.out.heap.less (K' := K) fun k o h => .inl h)
      have HRow := hide HA.out.row
      have HE := hide (HL.out.ends cmpS_ok (.inl rfl))
      clear HA
      go_wp2
      go_quiet ((go_at_call 43; exact Calls.quiet_of_same ((CLen.out _ (rest_drewN _ _)).mono fun e w2 h => ⟨h.1, h.2.symm⟩)))
      all_goals
        go_wp2
        go_ret
        exact ⟨_, x, aa, [], rfl, HRow.out.kept fun k _ => rfl, HL.out, HE.out, HH.out.kept (rest_drewN _ _), HW.out, Nat.zero_le _⟩
    · obtain ⟨g1, n1, k1, y, t1, b, o, q, d0, d1, c0, hn1, c1, hb0, p0, p1, hEy, hmem, hmin, hg1⟩ := HA.out.heap.top hns
      have f1 := HA.out.heap.c1
      have hlt := HA.out.heap.lt
      obtain ⟨z0, z1, r0, r1, hEx, hgl⟩ := HA.out.row.first
      have hbl := HA.out.heap.below
      have hs := hbl.size
      have m0 := (hbl.cell (p := ⟨b, o, none⟩) hb0).trans p0
      have m1 := (hbl.cell (p := ⟨b, o + 1, none⟩) hb0).trans p1
      have hlen := HFl.out aa ns HL.out
      have hnp : 0 < ns.length := List.length_pos_iff.2 hns
      have hnl := HN.out
      have hall : ∀ u ∈ ls.flatten, SmR u := fun u hu => by
        obtain ⟨k, hk, h⟩ := List.mem_flatten.1 hu
        exact HSm.out k hk u h
      have hsub : ∀ k ∈ ns, ∀ u ∈ k, SmR u := fun k hk u hu => hall u (HL.out.perm.mem_iff.2 (List.mem_append_right _ (List.mem_flatten.2 ⟨k, hk, hu⟩)))
      have hsx : SmR x := hall x (HL.out.perm.mem_iff.2 (by simp))
      have CC : Hid (∀ W2 : World, Below wr.heap.size wr W2 → Calls Try.prog 42 #[.agg #[z0, z1], .agg #[d0, d1]] W2 fun e w' => e = .returned (.int .i64 (cmpS x y)) ∧ Below wr.heap.size W2 w') := fun W2 h2 => by
        refine (cmpR_any x y z0 z1 d0 d1 w0 W2 hEx hEy (fun k hk => ((hbl.trans (h2.mono hs)).block k hk)) (Nat.le_trans hs h2.size) hsx (hsub _ hmem y (List.mem_cons_self ..))).mono fun e w' ⟨h, hb⟩ => ⟨h, hb.mono h2.size⟩
      have n0 : (0 : Int) < (ns.length : Int) := by omega
      have n1' : (0 : Int) < (n1 : Int) := by omega
      have n2 : decide ((0 : Int) < (ns.length : Int)) = true := decide_eq_true n0
      have HEx := hide hEx
      have HEy := hide hEy
      have HMem := hide hmem
      have HMin := hide hmin
      have HSub := hide hsub
      obtain ⟨⟨la1, lc1, rfl, -⟩, sa1, sc1, rfl, -⟩ := id hEx; obtain ⟨⟨la2, lc2, rfl, -⟩, sa2, sc2, rfl, -⟩ := id hEy
      clear hEx hEy hmem hmin hsub hbl p0 p1 hall hsx
      go_wp2
      as_aux_lemma =>
        go_region_held3 (fun w' => w'.cell? ⟨hb, 0, none⟩ = some (.slice (some ⟨g1, 0, none⟩) n1 k1) ∧ w'.cell? ⟨hb, 1, none⟩ = some (.func (.func 42) #[] #[]) ∧ w'.cell? ⟨g1, 0, none⟩ = some (.slice (some ⟨b, o, none⟩) (t1.length + 1) q) ∧ w'.cell? ⟨b, o, none⟩ = some (.slice la2 y.1.length lc2) ∧ w'.cell? ⟨b, o + 1, none⟩ = some (.slice sa2 y.2.length sc2) ∧ w'.cell? ⟨g, 0, none⟩ = some (.slice la1 x.1.length lc1) ∧ w'.cell? ⟨g, 1, none⟩ = some (.slice sa1 x.2.length sc1)) (go_keep) (first | (go_at_call 43; refine (CLen.out _ (Below.refl _ _).drew).mono ?_; rintro e w2 ⟨rfl, rfl⟩) | (go_at_call 42; refine (CC.out _ (Below.refl _ _).drew).mono ?_; rintro e w2 ⟨rfl, hb3⟩; have y0 := (hb3.cell (p := ⟨hb, 0, none⟩) hlt).trans c0; have y1 := (hb3.cell (p := ⟨hb, 1, none⟩) hlt).trans f1; have y2 := (hb3.cell (p := ⟨g1, 0, none⟩) hg1).trans c1; have y4 := (hb3.cell (p := ⟨b, o, none⟩) (by show b < wr.heap.size; omega)).trans m0; have y5 := (hb3.cell (p := ⟨b, o + 1, none⟩) (by show b < wr.heap.size; omega)).trans m1; have y6 := (hb3.cell (p := ⟨g, 0, none⟩) hgl).trans r0; have y7 := (hb3.cell (p := ⟨g, 1, none⟩) hgl).trans r1))
        all_goals
          have HB := hide ((Below.refl wr.heap.size wr).drew.trans hb3)
          clear hb3 y0 y1 y2 y4 y5 y6 y7 c0 c1 f1 m0 m1 r0 r1 CC CLen
          by_cases hc : cmpS x y = 0
          · have hcd : ((cmpS x y) == (0 : Int)) = true := by simp [hc]
            have CT := hide (takeLeastR_any w2 (HA.out.heap.kept HB.out) HSub.out hnl hns)
            have HFin : Hid (∀ x' t' ms', ns.Perm ((x' :: t') :: ms') → (∀ k ∈ ns, ∀ z, k.head? = some z → cmpS x' z ≤ 0) → Alike cmpS ls x (x :: (aa ++ [x'])) (restOf t' ms') ∧ (restOf t' ms').length ≤ 1000000000) := fun x' t' ms' hP hM => by
              have h1 := hM _ HMem.out y rfl
              have h2 := HMin.out _ (hP.mem_iff.2 (List.mem_cons_self ..)) x' rfl
              have h3 := cmpS_ok.neg x' y
              refine ⟨HL.out.next hP (List.Perm.refl _) (cmpS_ok.eqv0 hc (by omega)), ?_⟩
              have h4 := restOf_len t' ms'
              have h5 := hP.length_eq
              simp at h5
              omega
            obtain ⟨og, hog⟩ : ∃ og, wr.heap[g]? = some og := ⟨_, Array.getElem?_eq_getElem hgl⟩
            have hf1 : 1 ≤ ns.flatten.length := by
              have := List.length_pos_of_mem (List.mem_flatten.2 ⟨_, HMem.out, List.mem_cons_self ..⟩ : y ∈ ns.flatten)
              omega
            clear HMem HMin HSub
            go_wp2_with fail
            refine CT.out.mono ?_
            rintro e w3 ⟨e0, e1, x', t', ms', rfl, hE', hP', hM', hH', hsz'⟩
            have hgk := hH'.kp (k := g) (.inr ⟨rfl, hog⟩)
            obtain ⟨vals, hvl, hvo, hve⟩ := HA.out.row.row
            obtain ⟨ca, cc, ce⟩ := own_shape hvo
            cases ce
            have hvo3 : w3.ownsRow w0.heap.size 37 2 (.slice (some ⟨g, 0, none⟩) (aa.length + 1) cap) (aa.length + 1) (serCells vals) := own_kept hvo fun k e => by cases e; exact hgk.trans hog.symm
            have HO3 := hide hvo3
            have HNx := hide (HFin.out x' t' ms' hP' hM')
            have HH3 := hide hH'
            have HE' := hide hE'
            have HVl := hide hvl
            have HVe := hide hve
            have hw3 := hH'.below.size
            have HS3 := hide hsz'
            obtain ⟨⟨la3, lc3, rfl, -⟩, sa3, sc3, rfl, -⟩ := id hE'
            clear CT HFin hE' hP' hM' hH' hvl hvo hve hvo3
            go_wp2_with (first | (at_builtin; refine wpList_append_lies _ (by rfl) (.tmp 29) (.tmp 32) 22 (by rfl) w0.heap.size 37 i0 (.agg #[(.slice none 0 0), (.slice none 0 0)]) 2 48 Try.underlying22 hi hz0 hz1 hz2 rfl (by decide) (.slice (some ⟨g, 0, none⟩) (aa.length + 1) cap) (aa.length + 1) (serCells vals) (by rfl) (own_alloc HO3.out _) ⟨w3.heap.size, 0, none⟩ 1 1 [(Value.slice la3 x'.1.length lc3), (Value.slice sa3 x'.2.length sc3)] (by rfl) rfl (cells_new _ _ _) (one_two rfl rfl) (by decide) (by unfold maxLen; omega) (by omega) (by simp; omega) (w3.heap.size + 1) (by simp) ?_; intro g2 cap2 w4 hown4 hgrow hat hgl4))
            all_goals
              have HA4 : Hid (AlkR w0 K w4 hb g2 (aa.length + 1 + 1) cap2 (x :: (aa ++ [x'])) (restOf t' ms')) := by
                have hK0 : ∀ k o, K k o → k ≠ g ∧ w3.heap[k]? = some o := fun k o hk => ⟨fun e => HA.out.out o (e ▸ hk), HH3.out.kp (.inl hk)⟩
                have hkeep : ∀ k, k < w3.heap.size → k ≠ g → w4.heap[k]? = w3.heap[k]? := fun k hk hne => (hgrow.block k (by simp; omega) (fun e => hne (Option.some.inj e))).trans (heap_alloc_old w3 _ hk)
                have hs4 : w3.heap.size ≤ w4.heap.size := by have := hgrow.size; simp at this; omega
                refine ⟨⟨vals ++ [((Value.slice la3 x'.1.length lc3), (Value.slice sa3 x'.2.length sc3))], by simp [HVl.out], ?_, fun i p u hp hu => ?_⟩, ?_, fun o ho => ?_⟩
                · rw [serCells_snoc]
                  have el : (x :: (aa ++ [x'])).length = aa.length + 1 + 1 := by simp
                  rw [el]; exact hown4
                · have hu' : ((x :: aa) ++ [x'])[i]? = some u := hu
                  rcases getElem?_snoc hp with ⟨hi, hp⟩ | ⟨hi, rfl⟩
                  · rw [List.getElem?_append_left (by rw [← HVl.out]; exact hi)] at hu'
                    exact HVe.out i p u hp hu'
                  · rw [hi, HVl.out, List.getElem?_append_right (Nat.le_refl _), Nat.sub_self] at hu'
                    cases hu'
                    exact HE'.out
                · refine HH3.out.move hs4 (fun k hk hn => hkeep k hk fun e => hn og (.inr ⟨e, by rw [e]; exact hog⟩)) (fun k o hk => ?_) ((HH3.out.below.alloc hw3 _).grown hgrow (by simp; omega) fun k e => by cases e; exact (World.ownsRow.lt HO3.out _ rfl).1)
                  rcases hk with hk | ⟨rfl, hk⟩
                  · obtain ⟨h1, h2⟩ := hK0 k o hk
                    exact ⟨(hkeep k (lt_of_heapR h2) h1).trans h2, .inl ⟨o, .inl hk⟩⟩
                  · refine ⟨hk, ?_⟩
                    rcases hat with hat | hat
                    · have : g = k := Option.some.inj hat
                      subst this
                      exact .inl ⟨og, .inr ⟨rfl, hog⟩⟩
                    · exact .inr (by omega)
                · obtain ⟨h1, h2⟩ := hK0 g2 o ho
                  rcases hat with hat | hat
                  · exact h1 (Option.some.inj hat).symm
                  · have := lt_of_heapR h2; omega
              have HW4 : Hid (W.heap.size ≤ w4.heap.size) := by
                show W.heap.size ≤ w4.heap.size
                have h1 := hgrow.size; simp at h1
                have h2 := HW.out
                have h3 := HB.out.size
                have h4 := HS3.out
                omega
              clear HA hown4 hgrow hat hgl4 HO3 HH3
              go_wp2
              go_roundw
              case rel => exact ⟨g2, cap2, aa ++ [x'], _, by simp, by rw [List.length_append]; exact HA4.out, HNx.out.1, HW4.out, HNx.out.2⟩
              case measure => show ls.flatten.length - (aa.length + 1 + 1) < ls.flatten.length - (aa.length + 1); omega
          · have hcd : ((cmpS x y) == (0 : Int)) = false := by simp [hc]
            have HF : Hid (HeapR w0 K w2 hb ns) := (HA.out.heap.kept HB.out).less fun k o h => .inl h
            have HRw : Hid (RowR w0 w2 (.slice (some ⟨g, 0, none⟩) (aa.length + 1) cap) (x :: aa)) := HA.out.row.kept fun k e => by cases e; exact HB.out.block g hgl
            have HE := hide (HL.out.ends cmpS_ok (.inr ⟨y, hc, List.mem_flatten.2 ⟨_, HMem.out, List.mem_cons_self ..⟩, HMin.out⟩))
            have HW2 : Hid (W.heap.size ≤ w2.heap.size) := Nat.le_trans HW.out HB.out.size
            clear HA
            go_wp2
            go_ret
            exact ⟨_, x, aa, ns, rfl, HRw.out, HL.out, HE.out, HF.out, HW2.out, HN.out⟩
end Go.Proofs.Ytcidgfdiacehmaa

/- 'choirkeep.Sound', for any list of steps (200 of them are done): whatever happens, each replica has nothing but what was written somewhere; and as long as it is up, what it once had. The first form's statement and its card: no condition beside the row's own. -/
import Derived.Test.YtamcclcbmenjdaaGreatDoorSoundG30
import Derived.Test.YtamcclcbmenjdaaGreatDoorSoundG28
/- join's rests (of series): takeAlike. -/
namespace Go.Proofs.YtamcclcbmenjdaaGreatDoor
open Go.RowKit Go.Lib

theorem Tryz.infoElR : (Tryz.prog.info? 38).map (fun i => (i.zero, i.size, i.bytes)) = some (some (.agg #[(.slice none 0 0), (.slice none 0 0)]), 2, 48) := by kernel_rfl
/-- What the heap's top is in memory. -/
theorem HeapR.top {w0 : World} {K : Nat → Obj → Prop} {W : World} {hb : Nat} {ms : List (List Ser)} (h : HeapR w0 K W hb ms) (h0 : ms ≠ []) :
    ∃ g n c y t b o k a0 a1, W.cell? ⟨hb, 0, none⟩ = some (.slice (some ⟨g, 0, none⟩) n c) ∧ n = ms.length ∧ W.cell? ⟨g, 0, none⟩ = some (.slice (some ⟨b, o, none⟩) (t.length + 1) k) ∧ b < w0.heap.size ∧ w0.cell? ⟨b, o, none⟩ = some a0 ∧ w0.cell? ⟨b, o + 1, none⟩ = some a1 ∧ ElR w0 y a0 a1 ∧ (y :: t) ∈ ms ∧ (∀ k ∈ ms, ∀ z, k.head? = some z → cmpS y z ≤ 0) ∧ g < W.heap.size := by
  obtain ⟨lv, vs, ls', h1, h2, h3⟩ := h
  have hlen := h2.length_eq
  have hvl := h1.lists.len
  have hpos : 0 < ls'.length := by rw [hlen]; exact List.length_pos_iff.2 h0
  obtain ⟨y, t, v, hlx, hvx, _, hdx⟩ := h1.cons (i := 0) hpos
  obtain ⟨b, o, k, a0, a1, rfl, hb0, p0, p1, hE⟩ := (h1.lists.each 0 _ _ hvx hlx).1.head
  obtain ⟨g, c, rfl, g1, _, _, _, hgl⟩ := h1.rst.get hvx
  refine ⟨g, _, c, y, t, b, o, k, a0, a1, h1.rst.c0, by omega, g1, hb0, p0, p1, hE, h2.mem_iff.1 (List.mem_of_getElem? hlx), fun k hk z hz => ?_, hgl⟩
  obtain ⟨i, hi, e⟩ := List.mem_iff_getElem.1 (h2.mem_iff.2 hk)
  have := Hp.heap_min leR_tot leR_tr h3 i (by omega)
  cases k with
  | nil => cases hz
  | cons p q =>
    cases hz
    rw [hdx, hdR_of (ls := ls') (k := i) (by rw [List.getElem?_eq_getElem hi, e])] at this
    exact this
theorem HeapR.c1 {w0 : World} {K : Nat → Obj → Prop} {W : World} {hb : Nat} {ms : List (List Ser)} (h : HeapR w0 K W hb ms) : W.cell? ⟨hb, 1, none⟩ = some (.func (.func 115) #[] #[]) := by
  obtain ⟨lv, vs, ls', h1, _⟩ := h; exact h1.rst.c1
theorem heapLenR_any {w0 : World} {K : Nat → Obj → Prop} {hb : Nat} {ms : List (List Ser)} (W : World) (h : HeapR w0 K W hb ms) :
    Calls Tryz.prog 116 #[.pointer (some ⟨hb, 0, none⟩)] W fun e w' => e = .returned (.int .i64 ms.length) ∧ W = w' := by
  obtain ⟨lv, vs, ls', h1, h2, _⟩ := h
  have := lenR_any W h1.rst
  rw [h1.lists.len, h2.length_eq] at this
  exact this.mono fun e w' ⟨a, b⟩ => ⟨a, b.symm⟩

/-- A row of its own with the cells of elements. -/
structure RowR (w0 W : World) (av : Value) (aa : List Ser) : Prop where
  row : ∃ vals : List (Value × Value), vals.length = aa.length ∧ W.ownsRow w0.heap.size 38 2 av aa.length (serCells vals) ∧ ∀ (i : Nat) (p : Value × Value) (x : Ser), vals[i]? = some p → aa[i]? = some x → ElR w0 x p.1 p.2
theorem RowR.kept {w0 W W' : World} {av : Value} {aa : List Ser} (h : RowR w0 W av aa) (hk : ∀ k, av.ownBlock = some k → W'.heap[k]? = W.heap[k]?) : RowR w0 W' av aa := by
  obtain ⟨vals, h1, h2, h3⟩ := h.row
  exact ⟨vals, h1, own_kept h2 hk, h3⟩
theorem RowR.first {w0 W : World} {g n cap : Nat} {x : Ser} {aa : List Ser} (h : RowR w0 W (.slice (some ⟨g, 0, none⟩) n cap) (x :: aa)) : ∃ z0 z1, W.cell? ⟨g, 0, none⟩ = some z0 ∧ W.cell? ⟨g, 1, none⟩ = some z1 ∧ ElR w0 x z0 z1 ∧ g < W.heap.size := by
  obtain ⟨vals, h1, h2, h3⟩ := h.row
  obtain ⟨a, c, e⟩ := own_shape h2
  cases e
  cases vals with
  | nil => simp at h1
  | cons p r =>
    have hp := pair_get (fun x : Value × Value => x.1) (fun x => x.2) (p :: r) 0 p rfl
    exact ⟨p.1, p.2, own_cell h2 hp.1, own_cell h2 hp.2, h3 0 p x rfl rfl, (World.ownsRow.lt h2 g rfl).2⟩
/-- The heap, and a row beside it. -/
structure AlkR (w0 : World) (K : Nat → Obj → Prop) (W : World) (hb g n cap : Nat) (aa : List Ser) (ms : List (List Ser)) : Prop where
  row : RowR w0 W (.slice (some ⟨g, 0, none⟩) n cap) aa
  heap : HeapR w0 (fun k o => K k o ∨ k = g ∧ W.heap[k]? = some o) W hb ms
  out : ∀ o, ¬ K g o

set_option maxRecDepth 100000 in
set_option maxHeartbeats 1000000 in
theorem takeAlikeR_any {w0 : World} {K : Nat → Obj → Prop} {hb : Nat} {ls : List (List Ser)} (W : World) (h : HeapR w0 K W hb ls) (hsm : ∀ k ∈ ls, ∀ x ∈ k, SmR x) (hn : ls.length ≤ 1000000000) (hfl : ls.flatten.length ≤ 1000000000000) (hr : Rests cmpS ls) (h0 : ls ≠ []) :
    Calls Tryz.prog 118 #[.pointer (some ⟨hb, 0, none⟩)] W fun e w' => ∃ av x aa ms, e = .returned av ∧ RowR w0 w' av (x :: aa) ∧ Alike cmpS ls x (x :: aa) ms ∧ (∀ y ∈ ms.flatten, cmpS x y = -1) ∧ HeapR w0 K w' hb ms ∧ W.heap.size ≤ w'.heap.size ∧ ms.length ≤ 1000000000 := by
  obtain ⟨i0, hi, hz0, hz1, hz2⟩ := info_parts Tryz.infoElR
  have C1 := hide (takeLeastR_any W h hsm hn h0)
  have HSm := hide hsm
  clear h hsm
  go_enter Tryz.func118, Tryz.ntmps118
  go_wp2_with fail
  refine C1.out.mono ?_
  rintro e w1 ⟨a0, a1, x, t, ms, rfl, hE, hP, hM, hH, hsz⟩
  obtain ⟨⟨la1, lc1, rfl, -⟩, sa1, sc1, rfl, -⟩ := id hE
  clear C1
  have HR0 : Hid (RowR w0 (w1.alloc (.cells #[(.slice la1 x.1.length lc1), (.slice sa1 x.2.length sc1)] 38)) (.slice (some ⟨w1.heap.size, 0, none⟩) 1 1) [x]) := ⟨[((.slice la1 x.1.length lc1), (.slice sa1 x.2.length sc1))], rfl, ⟨rfl, .inr ⟨w1.heap.size, 1, #[(.slice la1 x.1.length lc1), (.slice sa1 x.2.length sc1)], rfl, hH.below.size, alloc_heap_new _ _, Nat.le_refl _, by decide, rfl, rfl⟩⟩, fun i p y hp hy => by
    cases i with
    | zero => cases hp; cases hy; exact hE
    | succ i => simp at hp⟩
  have HA0 : Hid (AlkR w0 K (w1.alloc (.cells #[(.slice la1 x.1.length lc1), (.slice sa1 x.2.length sc1)] 38)) hb w1.heap.size 1 1 [x] (restOf t ms)) := ⟨HR0.out, (hH.more _).move (Nat.le_refl _) (fun _ _ _ => rfl) (fun k o hk => by
      rcases hk with hk | ⟨rfl, hk⟩
      · exact ⟨(hH.more _).kp (.inl hk), .inl ⟨o, .inl hk⟩⟩
      · exact ⟨hk, .inl ⟨_, .inr ⟨rfl, rfl⟩⟩⟩) (hH.more _).below, fun o ho => by have := lt_of_heapR (hH.kp ho); omega⟩
  have HL0 := hide (Alike.first cmpS_ok hr hP (List.Perm.refl _) hM)
  have HRs := hide hr
  have HFl : Hid (∀ aa ms, Alike cmpS ls x (x :: aa) ms → aa.length + 1 + ms.flatten.length = ls.flatten.length) := fun aa ms h => by have := h.perm.length_eq; simp only [List.length_append, List.length_cons] at this; omega
  have HW0 : Hid (W.heap.size ≤ (w1.alloc (.cells #[(.slice la1 x.1.length lc1), (.slice sa1 x.2.length sc1)] 38)).heap.size) := by show W.heap.size ≤ (w1.alloc _).heap.size; simp; omega
  have HN0 : Hid ((restOf t ms).length ≤ 1000000000) := by show (restOf t ms).length ≤ 1000000000; have := restOf_len t ms; have := hP.length_eq; simp at this; omega
  clear HR0 hH hP hM hE hr
  go_wp2_with fail
  go_loopw [3] (fun av wr => ∃ (g cap : Nat) (aa : List Ser) (ms : List (List Ser)), av = .slice (some ⟨g, 0, none⟩) (aa.length + 1) cap ∧ Hid (AlkR w0 K wr hb g (aa.length + 1) cap (x :: aa) ms) ∧ Hid (Alike cmpS ls x (x :: aa) ms) ∧ Hid (W.heap.size ≤ wr.heap.size) ∧ Hid (ms.length ≤ 1000000000)) (fun av _ => ls.flatten.length - sliceLen av)
  case atStart => exact ⟨_, _, [], _, rfl, HA0.out, HL0.out, HW0.out, HN0.out⟩
  case round =>
    clear HA0 HL0 HW0 HN0
    obtain ⟨g, cap, aa, ns, rfl, HA, HL, HW, HN⟩ := hrel
    have CLen : Hid (∀ W2 : World, Below wr.heap.size wr W2 → Calls Tryz.prog 116 #[.pointer (some ⟨hb, 0, none⟩)] W2 fun e w' => e = .returned (.int .i64 ns.length) ∧ W2 = w') := fun W2 h2 => heapLenR_any W2 (HA.out.heap.kept h2)
    by_cases hns : ns = []
    · subst hns
      have HH := hide (HA.out.heap.less (K' := K) fun k o h => .inl h)
      have HRow := hide HA.out.row
      have HE := hide (HL.out.ends cmpS_ok (.inl rfl))
      clear HA
      go_wp2
      go_quiet ((go_at_call 116; exact Calls.quiet_of_same ((CLen.out _ (rest_drewN _ _)).mono fun e w2 h => ⟨h.1, h.2.symm⟩)))
      all_goals
        go_wp2
        go_ret
        exact ⟨_, x, aa, [], rfl, HRow.out.kept fun k _ => rfl, HL.out, HE.out, HH.out.kept (rest_drewN _ _), HW.out, Nat.zero_le _⟩
    · obtain ⟨g1, n1, k1, y, t1, b, o, q, d0, d1, c0, hn1, c1, hb0, p0, p1, hEy, hmem, hmin, hg1⟩ := HA.out.heap.top hns
      have f1 := HA.out.heap.c1
      have hlt := HA.out.heap.lt
      obtain ⟨z0, z1, r0, r1, hEx, hgl⟩ := HA.out.row.first
      have hbl := HA.out.heap.below
      have hs := hbl.size
      have m0 := (hbl.cell (p := ⟨b, o, none⟩) hb0).trans p0
      have m1 := (hbl.cell (p := ⟨b, o + 1, none⟩) hb0).trans p1
      have hlen := HFl.out aa ns HL.out
      have hnp : 0 < ns.length := List.length_pos_iff.2 hns
      have hnl := HN.out
      have hall : ∀ u ∈ ls.flatten, SmR u := fun u hu => by
        obtain ⟨k, hk, h⟩ := List.mem_flatten.1 hu
        exact HSm.out k hk u h
      have hsub : ∀ k ∈ ns, ∀ u ∈ k, SmR u := fun k hk u hu => hall u (HL.out.perm.mem_iff.2 (List.mem_append_right _ (List.mem_flatten.2 ⟨k, hk, hu⟩)))
      have hsx : SmR x := hall x (HL.out.perm.mem_iff.2 (by simp))
      have CC : Hid (∀ W2 : World, Below wr.heap.size wr W2 → Calls Tryz.prog 115 #[.agg #[z0, z1], .agg #[d0, d1]] W2 fun e w' => e = .returned (.int .i64 (cmpS x y)) ∧ Below wr.heap.size W2 w') := fun W2 h2 => by
        refine (cmpR_any x y z0 z1 d0 d1 w0 W2 hEx hEy (fun k hk => ((hbl.trans (h2.mono hs)).block k hk)) (Nat.le_trans hs h2.size) hsx (hsub _ hmem y (List.mem_cons_self ..))).mono fun e w' ⟨h, hb⟩ => ⟨h, hb.mono h2.size⟩
      have n0 : (0 : Int) < (ns.length : Int) := by omega
      have n1' : (0 : Int) < (n1 : Int) := by omega
      have n2 : decide ((0 : Int) < (ns.length : Int)) = true := decide_eq_true n0
      have HEx := hide hEx
      have HEy := hide hEy
      have HMem := hide hmem
      have HMin := hide hmin
      have HSub := hide hsub
      obtain ⟨⟨la1, lc1, rfl, -⟩, sa1, sc1, rfl, -⟩ := id hEx; obtain ⟨⟨la2, lc2, rfl, -⟩, sa2, sc2, rfl, -⟩ := id hEy
      clear hEx hEy hmem hmin hsub hbl p0 p1 hall hsx
      go_wp2
      as_aux_lemma =>
        go_region_held3 (fun w' => w'.cell? ⟨hb, 0, none⟩ = some (.slice (some ⟨g1, 0, none⟩) n1 k1) ∧ w'.cell? ⟨hb, 1, none⟩ = some (.func (.func 115) #[] #[]) ∧ w'.cell? ⟨g1, 0, none⟩ = some (.slice (some ⟨b, o, none⟩) (t1.length + 1) q) ∧ w'.cell? ⟨b, o, none⟩ = some (.slice la2 y.1.length lc2) ∧ w'.cell? ⟨b, o + 1, none⟩ = some (.slice sa2 y.2.length sc2) ∧ w'.cell? ⟨g, 0, none⟩ = some (.slice la1 x.1.length lc1) ∧ w'.cell? ⟨g, 1, none⟩ = some (.slice sa1 x.2.length sc1)) (go_keep) (first | (go_at_call 116; refine (CLen.out _ (Below.refl _ _).drew).mono ?_; rintro e w2 ⟨rfl, rfl⟩) | (go_at_call 115; refine (CC.out _ (Below.refl _ _).drew).mono ?_; rintro e w2 ⟨rfl, hb3⟩; have y0 := (hb3.cell (p := ⟨hb, 0, none⟩) hlt).trans c0; have y1 := (hb3.cell (p := ⟨hb, 1, none⟩) hlt).trans f1; have y2 := (hb3.cell (p := ⟨g1, 0, none⟩) hg1).trans c1; have y4 := (hb3.cell (p := ⟨b, o, none⟩) (by show b < wr.heap.size; omega)).trans m0; have y5 := (hb3.cell (p := ⟨b, o + 1, none⟩) (by show b < wr.heap.size; omega)).trans m1; have y6 := (hb3.cell (p := ⟨g, 0, none⟩) hgl).trans r0; have y7 := (hb3.cell (p := ⟨g, 1, none⟩) hgl).trans r1))
        all_goals
          have HB := hide ((Below.refl wr.heap.size wr).drew.trans hb3)
          clear hb3 y0 y1 y2 y4 y5 y6 y7 c0 c1 f1 m0 m1 r0 r1 CC CLen
          by_cases hc : cmpS x y = 0
          · have hcd : ((cmpS x y) == (0 : Int)) = true := by simp [hc]
            have CT := hide (takeLeastR_any w2 (HA.out.heap.kept HB.out) HSub.out hnl hns)
            have HFin : Hid (∀ x' t' ms', ns.Perm ((x' :: t') :: ms') → (∀ k ∈ ns, ∀ z, k.head? = some z → cmpS x' z ≤ 0) → Alike cmpS ls x (x :: (aa ++ [x'])) (restOf t' ms') ∧ (restOf t' ms').length ≤ 1000000000) := fun x' t' ms' hP hM => by
              have h1 := hM _ HMem.out y rfl
              have h2 := HMin.out _ (hP.mem_iff.2 (List.mem_cons_self ..)) x' rfl
              have h3 := cmpS_ok.neg x' y
              refine ⟨HL.out.next hP (List.Perm.refl _) (cmpS_ok.eqv0 hc (by omega)), ?_⟩
              have h4 := restOf_len t' ms'
              have h5 := hP.length_eq
              simp at h5
              omega
            obtain ⟨og, hog⟩ : ∃ og, wr.heap[g]? = some og := ⟨_, Array.getElem?_eq_getElem hgl⟩
            have hf1 : 1 ≤ ns.flatten.length := by
              have := List.length_pos_of_mem (List.mem_flatten.2 ⟨_, HMem.out, List.mem_cons_self ..⟩ : y ∈ ns.flatten)
              omega
            clear HMem HMin HSub
            go_wp2_with fail
            refine CT.out.mono ?_
            rintro e w3 ⟨e0, e1, x', t', ms', rfl, hE', hP', hM', hH', hsz'⟩
            have hgk := hH'.kp (k := g) (.inr ⟨rfl, hog⟩)
            obtain ⟨vals, hvl, hvo, hve⟩ := HA.out.row.row
            obtain ⟨ca, cc, ce⟩ := own_shape hvo
            cases ce
            have hvo3 : w3.ownsRow w0.heap.size 38 2 (.slice (some ⟨g, 0, none⟩) (aa.length + 1) cap) (aa.length + 1) (serCells vals) := own_kept hvo fun k e => by cases e; exact hgk.trans hog.symm
            have HO3 := hide hvo3
            have HNx := hide (HFin.out x' t' ms' hP' hM')
            have HH3 := hide hH'
            have HE' := hide hE'
            have HVl := hide hvl
            have HVe := hide hve
            have hw3 := hH'.below.size
            have HS3 := hide hsz'
            obtain ⟨⟨la3, lc3, rfl, -⟩, sa3, sc3, rfl, -⟩ := id hE'
            clear CT HFin hE' hP' hM' hH' hvl hvo hve hvo3
            go_wp2_with (first | (at_builtin; refine wpList_append_lies _ (by rfl) (.tmp 29) (.tmp 32) 39 (by rfl) w0.heap.size 38 i0 (.agg #[(.slice none 0 0), (.slice none 0 0)]) 2 48 Tryz.underlying39 hi hz0 hz1 hz2 rfl (by decide) (.slice (some ⟨g, 0, none⟩) (aa.length + 1) cap) (aa.length + 1) (serCells vals) (by rfl) (own_alloc HO3.out _) ⟨w3.heap.size, 0, none⟩ 1 1 [(Value.slice la3 x'.1.length lc3), (Value.slice sa3 x'.2.length sc3)] (by rfl) rfl (cells_new _ _ _) (one_two rfl rfl) (by decide) (by unfold maxLen; omega) (by omega) (by simp; omega) (w3.heap.size + 1) (by simp) ?_; intro g2 cap2 w4 hown4 hgrow hat hgl4))
            all_goals
              have HA4 : Hid (AlkR w0 K w4 hb g2 (aa.length + 1 + 1) cap2 (x :: (aa ++ [x'])) (restOf t' ms')) := by
                have hK0 : ∀ k o, K k o → k ≠ g ∧ w3.heap[k]? = some o := fun k o hk => ⟨fun e => HA.out.out o (e ▸ hk), HH3.out.kp (.inl hk)⟩
                have hkeep : ∀ k, k < w3.heap.size → k ≠ g → w4.heap[k]? = w3.heap[k]? := fun k hk hne => (hgrow.block k (by simp; omega) (fun e => hne (Option.some.inj e))).trans (heap_alloc_old w3 _ hk)
                have hs4 : w3.heap.size ≤ w4.heap.size := by have := hgrow.size; simp at this; omega
                refine ⟨⟨vals ++ [((Value.slice la3 x'.1.length lc3), (Value.slice sa3 x'.2.length sc3))], by simp [HVl.out], ?_, fun i p u hp hu => ?_⟩, ?_, fun o ho => ?_⟩
                · rw [serCells_snoc]
                  have el : (x :: (aa ++ [x'])).length = aa.length + 1 + 1 := by simp
                  rw [el]; exact hown4
                · have hu' : ((x :: aa) ++ [x'])[i]? = some u := hu
                  rcases getElem?_snoc hp with ⟨hi, hp⟩ | ⟨hi, rfl⟩
                  · rw [List.getElem?_append_left (by rw [← HVl.out]; exact hi)] at hu'
                    exact HVe.out i p u hp hu'
                  · rw [hi, HVl.out, List.getElem?_append_right (Nat.le_refl _), Nat.sub_self] at hu'
                    cases hu'
                    exact HE'.out
                · refine HH3.out.move hs4 (fun k hk hn => hkeep k hk fun e => hn og (.inr ⟨e, by rw [e]; exact hog⟩)) (fun k o hk => ?_) ((HH3.out.below.alloc hw3 _).grown hgrow (by simp; omega) fun k e => by cases e; exact (World.ownsRow.lt HO3.out _ rfl).1)
                  rcases hk with hk | ⟨rfl, hk⟩
                  · obtain ⟨h1, h2⟩ := hK0 k o hk
                    exact ⟨(hkeep k (lt_of_heapR h2) h1).trans h2, .inl ⟨o, .inl hk⟩⟩
                  · refine ⟨hk, ?_⟩
                    rcases hat with hat | hat
                    · have : g = k := Option.some.inj hat
                      subst this
                      exact .inl ⟨og, .inr ⟨rfl, hog⟩⟩
                    · exact .inr (by omega)
                · obtain ⟨h1, h2⟩ := hK0 g2 o ho
                  rcases hat with hat | hat
                  · exact h1 (Option.some.inj hat).symm
                  · have := lt_of_heapR h2; omega
              have HW4 : Hid (W.heap.size ≤ w4.heap.size) := by
                show W.heap.size ≤ w4.heap.size
                have h1 := hgrow.size; simp at h1
                have h2 := HW.out
                have h3 := HB.out.size
                have h4 := HS3.out
                omega
              clear HA hown4 hgrow hat hgl4 HO3 HH3
              go_wp2
              go_roundw
              case rel => exact ⟨g2, cap2, aa ++ [x'], _, by simp, by rw [List.length_append]; exact HA4.out, HNx.out.1, HW4.out, HNx.out.2⟩
              case measure => show ls.flatten.length - (aa.length + 1 + 1) < ls.flatten.length - (aa.length + 1); omega
          · have hcd : ((cmpS x y) == (0 : Int)) = false := by simp [hc]
            have HF : Hid (HeapR w0 K w2 hb ns) := (HA.out.heap.kept HB.out).less fun k o h => .inl h
            have HRw : Hid (RowR w0 w2 (.slice (some ⟨g, 0, none⟩) (aa.length + 1) cap) (x :: aa)) := HA.out.row.kept fun k e => by cases e; exact HB.out.block g hgl
            have HE := hide (HL.out.ends cmpS_ok (.inr ⟨y, hc, List.mem_flatten.2 ⟨_, HMem.out, List.mem_cons_self ..⟩, HMin.out⟩))
            have HW2 : Hid (W.heap.size ≤ w2.heap.size) := Nat.le_trans HW.out HB.out.size
            clear HA
            go_wp2
            go_ret
            exact ⟨_, x, aa, ns, rfl, HRw.out, HL.out, HE.out, HF.out, HW2.out, HN.out⟩
end Go.Proofs.YtamcclcbmenjdaaGreatDoor

/- join's rests (of series): restsOf. -/
namespace Go.Proofs.YtamcclcbmenjdaaGreatDoor
open Go.RowKit Go.Lib

/-- A row of lists in memory, some of them maybe empty. -/
def RowsR (w : World) (v : Value) (ls : List (List Ser)) : Prop :=
  ∃ a cap, v = .slice a ls.length cap ∧ ∀ i l, ls[i]? = some l → ∃ b o la lc, a = some ⟨b, o, none⟩ ∧ b < w.heap.size ∧ w.cell? ⟨b, o + i, none⟩ = some (.slice la l.length lc) ∧ BatchAt w w.heap.size (.slice la l.length lc) l
theorem HeapR.zero (W : World) : HeapR W (fun _ _ => False) (W.alloc (.cells #[.slice none 0 0, .func (.func 115) #[] #[]] 197)) W.heap.size [] := by
  refine ⟨.slice none 0 0, [], [], ⟨⟨(Below.refl _ _).alloc (Nat.le_refl _) _, Nat.le_refl _, by simp, World.cell?_alloc_new _ _ _ 0, World.cell?_alloc_new _ _ _ 1, World.frozen?_alloc_new _ _ _ 0, World.ownsRow_nil _ _ _ _, (fun e => (by cases e)), (fun k o h => False.elim h)⟩, ⟨rfl, fun i v l h _ => by simp at h⟩, rfl⟩, List.Perm.refl _, fun k _ h => by simp at h⟩

set_option maxRecDepth 100000 in
set_option maxHeartbeats 1000000 in
theorem restsOfR_any {ls : List (List Ser)} (W : World) (v : Value) (hv : RowsR W v ls) (hsm : ∀ k ∈ ls, ∀ x ∈ k, SmR x) (hn : ls.length ≤ 1000000000) :
    Calls Tryz.prog 114 #[v, .func (.func 115) #[] #[]] W fun e w' => ∃ hb, e = .returned (.pointer (some ⟨hb, 0, none⟩)) ∧ HeapR W (fun _ _ => False) w' hb (full ls) := by
  obtain ⟨a, cap, rfl, hv⟩ := hv
  have HV := hide hv
  have HSm := hide hsm
  have H0 := hide (HeapR.zero W)
  clear hv hsm
  go_enter Tryz.func114, Tryz.ntmps114
  go_wp2
  go_loopw [7, 13] (fun _ iv wr => ∃ (i : Nat), i ≤ ls.length ∧ iv = .int .i64 i ∧ Hid (HeapR W (fun _ _ => False) wr W.heap.size (full (ls.take i)))) (fun _ iv _ => ls.length - (intOf iv).toNat)
  case atStart => exact ⟨0, Nat.zero_le _, rfl, H0.out⟩
  case round =>
    clear H0
    obtain ⟨i, hi, rfl, H⟩ := hrel
    by_cases hlt : i < ls.length
    · obtain ⟨l, hl⟩ : ∃ l, ls[i]? = some l := ⟨_, List.getElem?_eq_getElem hlt⟩
      obtain ⟨b, o, la, lc, rfl, hb0, c0, hA⟩ := HV.out i l hl
      have hbl := H.out.below
      have m0 := (hbl.cell (p := ⟨b, o + i, none⟩) hb0).trans c0
      have ht := take_more ls i l hl
      have C := hide (addR_any wr H.out la lc l hA (fun k hk x hx => by
        rcases List.mem_cons.1 hk with rfl | hk
        · exact HSm.out _ (List.mem_of_getElem? hl) x hx
        · exact HSm.out k (List.mem_of_mem_take (List.mem_filter.1 hk).1) x hx) (by have := full_len (ls.take i); have := List.length_take_le i ls; omega))
      have HP : Hid (∀ w', HeapR W (fun _ _ => False) w' W.heap.size (restOf l (full (ls.take i))) → HeapR W (fun _ _ => False) w' W.heap.size (full (ls.take (i + 1)))) := fun w' h => by
        rw [ht]; exact h.perm (full_snoc _ _)
      have i1 : (i : Int) < (ls.length : Int) := by omega
      clear hl hA c0 hbl ht H
      go_wp2_with fail
      refine C.out.mono ?_
      rintro e w1 ⟨rfl, h1⟩
      have H1 := hide (HP.out _ h1)
      clear h1 C HP m0
      go_wp2
      go_roundw
      case rel => exact ⟨i + 1, by omega, by go_num, H1.out⟩
      case measure => simp [intOf]; omega
    · have hi' : i = ls.length := by omega
      have HE : Hid (HeapR W (fun _ _ => False) wr W.heap.size (full ls)) := by
        have h := H.out
        rw [hi', List.take_length] at h; exact h
      have i1 : ¬ (i : Int) < (ls.length : Int) := by omega
      clear H hi'
      go_wp2
      go_ret
      exact ⟨_, rfl, HE.out⟩
end Go.Proofs.YtamcclcbmenjdaaGreatDoor

/- join.joinSeries: of series with the same labels one. -/
namespace Go.Proofs.YtamcclcbmenjdaaGreatDoor
open Go.RowKit Go.Lib

theorem Tryz.infoSams : (Tryz.prog.info? 35).map (fun i => (i.zero, i.size, i.bytes)) = some (some (.slice none 0 0), 1, 24) := by kernel_rfl

theorem LabelsAt.wider {w : World} {B B' : Nat} {v : Value} {l : List Lab} (h : LabelsAt w B v l) (hB : B ≤ B') : LabelsAt w B' v l := by
  obtain ⟨a, c, hv, hc, h2⟩ := h
  exact ⟨a, c, hv, hc, h2.imp id fun ⟨b, o, ha, hb, hcell⟩ => ⟨b, o, ha, by omega, hcell⟩⟩
theorem SamplesAt.wider {w : World} {B B' : Nat} {v : Value} {l : List (Int × Nat)} (h : SamplesAt w B v l) (hB : B ≤ B') : SamplesAt w B' v l := by
  obtain ⟨a, c, hv, hc, hr, h2⟩ := h
  exact ⟨a, c, hv, hc, hr, h2.imp id fun ⟨b, o, ha, hb, hcell⟩ => ⟨b, o, ha, by omega, hcell⟩⟩
theorem RowsS.kept {w w' : World} {v : Value} {ls : List (List (Int × Nat))} (h : RowsS w v ls) (hb : Below w.heap.size w w') : RowsS w' v ls := by
  obtain ⟨a, cap, hv, h2⟩ := h
  refine ⟨a, cap, hv, fun i l hl => ?_⟩
  obtain ⟨b, o, la, lc, ha, hbl, hc, hs⟩ := h2 i l hl
  exact ⟨b, o, la, lc, ha, Nat.lt_of_lt_of_le hbl hb.size, (hb.cell (p := ⟨b, o + i, none⟩) hbl).trans hc, (hs.below hb (Nat.le_refl _)).wider hb.size⟩
theorem batchGet {w : World} {B : Nat} {a : Option Addr} {n c : Nat} {l : List Ser} (h : BatchAt w B (.slice a n c) l) {j : Nat} {x : Ser} (hx : l[j]? = some x) :
    ∃ b o lv sv, a = some ⟨b, o, none⟩ ∧ b < B ∧ w.cell? ⟨b, o + j * 2, none⟩ = some lv ∧ w.cell? ⟨b, o + j * 2 + 1, none⟩ = some sv ∧ LabelsAt w B lv x.1 ∧ SamplesAt w B sv x.2 := by
  obtain ⟨a', c', hv, _, h2⟩ := h
  cases hv
  rcases h2 with h2 | ⟨b, o, ha, hb, hc⟩
  · rw [h2] at hx; cases hx
  · obtain ⟨lv, sv, h1, h2, h3, h4⟩ := hc j x hx
    exact ⟨b, o, lv, sv, ha, hb, h1, h2, h3, h4⟩

set_option maxRecDepth 100000 in
set_option maxHeartbeats 1000000 in
theorem joinSeries_any (W : World) (v : Value) (x : Ser) (r : List Ser) (hv : BatchAt W W.heap.size v (x :: r)) (hr : ∀ s ∈ x :: r, s.2.Pairwise fun x y => cmpT x y = -1) (hn : (x :: r).length ≤ 1000000000) (hfl : ((x :: r).map (·.2)).flatten.length ≤ 1000000000000) (hl : x.1.length ≤ 1000000000000) (ht : ∀ t ∈ x.1, t.1.size ≤ 140737488355328 ∧ t.2.size ≤ 140737488355328) :
    Calls Tryz.prog 117 #[v] W fun e w' => ∃ lv sv s, e = .returned (.agg #[lv, sv]) ∧ OneOf (x :: r) x.1 s ∧ w'.ownsRow W.heap.size 80 2 lv s.1.length (labCells s.1) ∧ w'.ownsRow W.heap.size 34 2 sv s.2.length (samCells s.2) ∧ Below W.heap.size W w' := by
  obtain ⟨i0, hi, hz0, hz1, hz2⟩ := info_parts Tryz.infoSams
  obtain ⟨va, vc, rfl, -⟩ := id hv
  have HV := hide hv
  have hsz : W.heap.size ≤ W.heap.size := Nat.le_refl _
  have hn' : r.length + 1 ≤ 1000000000 := hn
  have HR := hide hr
  have HT := hide ht
  have HFl := hide hfl
  clear hv hn hr ht hfl
  go_enter Tryz.func117, Tryz.ntmps117
  go_wp2_with (first | (at_make; refine wpList_make_own _ rfl _ _ 26 rfl (W.heap.size + 1) 35 i0 _ 1 Tryz.underlying26 hi hz0 hz1 .i64 .i64 _ (r.length + 1) rfl rfl rfl (by rw [hz2]; omega) (by unfold maxLen; omega) (by simp) ?_; intro w2 hown2 hgrow2))
  have HO2 := hide hown2
  have HB2 : Hid (Below W.heap.size W w2) := ((Below.refl _ _).alloc (Nat.le_refl _) _).grown hgrow2 (by simp) (fun k e => (by cases e))
  have HRc : Hid (w2.heap[W.heap.size]? = some (.cells #[.slice none 0 0, .slice none 0 0] 38)) := (hgrow2.block _ (by simp) (by simp)).trans (alloc_heap_new _ _)
  clear hown2 hgrow2
  go_wp2
  go_loopw [3, 5, 11] (fun ov _ i wr => ∃ (k g cap : Nat) (vs : List Value), k ≤ r.length + 1 ∧ i = .int .i64 k ∧ ov = .slice (some ⟨g, 0, none⟩) k cap ∧ Hid (vs.length = k) ∧ Hid (wr.ownsRow (W.heap.size + 1) 35 1 (.slice (some ⟨g, 0, none⟩) k cap) k vs) ∧ Hid (∀ (i : Nat) (u : Value) (s : Ser), vs[i]? = some u → (x :: r)[i]? = some s → SamplesAt W W.heap.size u s.2) ∧ Hid (Below W.heap.size W wr) ∧ Hid (wr.heap[W.heap.size]? = some (.cells #[.slice none 0 0, .slice none 0 0] 38))) (fun _ _ i _ => r.length + 1 - (intOf i).toNat)
  case atStart => exact ⟨0, W.heap.size + 1, r.length + 1, [], Nat.zero_le _, rfl, rfl, rfl, by show w2.ownsRow _ _ _ _ _ _; simpa using HO2.out, (fun i u s h _ => by simp at h), HB2.out, HRc.out⟩
  case round =>
    clear HO2 HB2 HRc
    obtain ⟨k, g, cap, vs, hk, rfl, rfl, HVl, HO, HS, HB, HRc⟩ := hrel
    have hws := HB.out.size
    have hrs := lt_of_heapS HRc.out
    have hg := World.ownsRow.lt HO.out g rfl
    by_cases hlt : k < r.length + 1
    · obtain ⟨s, hx⟩ : ∃ s, (x :: r)[k]? = some s := ⟨_, List.getElem?_eq_getElem hlt⟩
      obtain ⟨b, o, lv, sv, rfl, hbB, c0, c1, hL, hS⟩ := batchGet HV.out hx
      obtain ⟨la, lc, rfl, -⟩ := id hL
      obtain ⟨sa, sc, rfl, -⟩ := id hS
      have k0 := (HB.out.cell (p := ⟨b, o + k * 2, none⟩) hbB).trans c0
      have k1 := (HB.out.cell (p := ⟨b, o + k * 2 + 1, none⟩) hbB).trans c1
      have i1 : (k : Int) < (r.length : Int) + 1 := by omega
      have HX := hide hx
      have HSx := hide hS
      clear c0 c1 hx hL hS
      go_wp2_with (first | (at_builtin; refine wpList_append_lies _ (by rfl) (.tmp 15) (.tmp 18) 26 (by rfl) (W.heap.size + 1) 35 i0 (.slice none 0 0) 1 24 Tryz.underlying26 hi hz0 hz1 hz2 rfl (by decide) (.slice (some ⟨g, 0, none⟩) k cap) k vs (by rfl) (own_alloc (own_alloc HO.out _) _) ⟨wr.heap.size + 1, 0, none⟩ 1 1 [.slice sa s.2.length sc] (by rfl) rfl (by have := one_news (wr.alloc (.cells #[.slice la s.1.length lc, .slice sa s.2.length sc] 38)) 35 (.slice sa s.2.length sc); simpa using this) (by intro u hu; simp at hu; subst hu; rfl) (by decide) (by unfold maxLen; omega) (by omega) (by simp; omega) (wr.heap.size + 1 + 1) (by simp) ?_; intro g2 cap2 w5 hown5 hgrow hat hgl5) | fail)
      all_goals
        have HO5 := hide hown5
        have HV5 : Hid ((vs ++ [Value.slice sa s.2.length sc]).length = k + 1) := by show _ = _; rw [List.length_append, HVl.out]; rfl
        have HS5 : Hid (∀ (i : Nat) (u : Value) (t : Ser), (vs ++ [Value.slice sa s.2.length sc])[i]? = some u → (x :: r)[i]? = some t → SamplesAt W W.heap.size u t.2) := fun i u t hu ht => by
          rcases getElem?_snoc hu with ⟨_, hu⟩ | ⟨hi, rfl⟩
          · exact HS.out i u t hu ht
          · rw [hi, HVl.out, HX.out] at ht
            cases ht
            exact HSx.out
        have HB5 : Hid (Below W.heap.size W w5) := ((HB.out.alloc hws _).alloc (by simp; omega) _).grown hgrow (by simp; omega) (fun q e => by have e2 : g = q := Option.some.inj e; omega)
        have HR5 : Hid (w5.heap[W.heap.size]? = some (.cells #[.slice none 0 0, .slice none 0 0] 38)) := (hgrow.block _ (by simp; omega) (fun e => by have e2 : W.heap.size = g := Option.some.inj e; omega)).trans ((heap_alloc_old _ _ (by simp; omega)).trans ((heap_alloc_old _ _ hrs).trans HRc.out))
        clear hown5 hgrow hat hgl5 HO HS HB HRc HVl HX HSx
        (try go_wp2)
        go_roundw
        case rel => exact ⟨k + 1, g2, cap2, _, by omega, by go_num, rfl, HV5.out, HO5.out, HS5.out, HB5.out, HR5.out⟩
        case measure => simp [intOf]; omega
    · obtain rfl : k = r.length + 1 := by omega
      have i1 : ¬ ((r.length + 1 : Nat) : Int) < (r.length : Int) + 1 := by omega
      obtain ⟨b, o, lv, sv, rfl, hbB, c0, c1, hL, hS⟩ := batchGet HV.out (j := 0) (x := x) rfl
      obtain ⟨la, lc, rfl, -⟩ := id hL
      simp only [Nat.zero_mul, Nat.add_zero] at c0 c1
      have k0 := (HB.out.cell (p := ⟨b, o, none⟩) hbB).trans c0
      have hrows : RowsS wr (.slice (some ⟨g, 0, none⟩) (r.length + 1) cap) ((x :: r).map (·.2)) := by
        refine ⟨some ⟨g, 0, none⟩, cap, by simp, fun i l hl => ?_⟩
        rw [List.getElem?_map] at hl
        obtain ⟨s, hs, rfl⟩ := Option.map_eq_some_iff.1 hl
        obtain ⟨u, hu⟩ : ∃ u, vs[i]? = some u := ⟨_, List.getElem?_eq_getElem (by rw [HVl.out]; exact (List.getElem?_eq_some_iff.1 hs).1)⟩
        have hsa := HS.out i u s hu hs
        obtain ⟨sa, sc, rfl, -⟩ := id hsa
        refine ⟨g, 0, sa, sc, rfl, hg.2, by rw [Nat.zero_add]; exact own_cell HO.out hu, ?_⟩
        exact (hsa.below HB.out (Nat.le_refl _)).wider hws
      have CL := hide (copyLabels_any wr (.slice la x.1.length lc) x.1 ((hL.kept fun q hq => HB.out.block q hq).wider hws) hl HT.out)
      have HRows := hide hrows
      have HPw : Hid (∀ l ∈ (x :: r).map (·.2), l.Pairwise fun x y => cmpT x y = -1) := fun l hl => by
        obtain ⟨s, hs, rfl⟩ := List.mem_map.1 hl
        exact HR.out s hs
      have hml : ((x :: r).map (·.2)).length ≤ 1000000000 := by simp only [List.length_map, List.length_cons]; omega
      have HMl := hide hml
      clear hrows hL hS c0 c1 HS HO hml
      go_wp2_with fail
      refine CL.out.mono ?_
      rintro e w3 ⟨lv', rfl, hlo, hb3⟩
      obtain ⟨la', lc', rfl⟩ := own_shape hlo
      have CS := hide (joinSamples_any w3 _ _ (HRows.out.kept hb3) HPw.out HMl.out HFl.out)
      have HLo := hide hlo
      have HB3 := hide hb3
      have hs3 := hb3.size
      clear CL hlo hb3 HRows
      go_wp2_with fail
      refine CS.out.mono ?_
      rintro e w4 ⟨sv', jl, rfl, hT, hso, hb4⟩
      obtain ⟨sa', sc', rfl⟩ := own_shape hso
      have hb34 := HB3.out.trans (hb4.mono hs3)
      have hrc := (hb34.block _ hrs).trans HRc.out
      have r0 : w4.cell? ⟨W.heap.size, 0, none⟩ = some (.slice none 0 0) := by simp [World.cell?, hrc]
      have r1 : w4.cell? ⟨W.heap.size, 1, none⟩ = some (.slice none 0 0) := by simp [World.cell?, hrc]
      have fr0 : w4.frozen? ⟨W.heap.size, 0, none⟩ = false := by simp [World.frozen?, hrc]
      have fr1 : w4.frozen? ⟨W.heap.size, 1, none⟩ = false := by simp [World.frozen?, hrc]
      have HF : Hid (∀ u v, OneOf (x :: r) x.1 (x.1, jl) ∧ ((w4.setCell ⟨W.heap.size, 0, none⟩ u).setCell ⟨W.heap.size, 1, none⟩ v).ownsRow W.heap.size 80 2 (.slice la' x.1.length lc') x.1.length (labCells x.1) ∧ ((w4.setCell ⟨W.heap.size, 0, none⟩ u).setCell ⟨W.heap.size, 1, none⟩ v).ownsRow W.heap.size 34 2 (.slice sa' jl.length sc') jl.length (samCells jl) ∧ Below W.heap.size W ((w4.setCell ⟨W.heap.size, 0, none⟩ u).setCell ⟨W.heap.size, 1, none⟩ v)) := fun u v => by
        have hk : ∀ q, q ≠ W.heap.size → ((w4.setCell ⟨W.heap.size, 0, none⟩ u).setCell ⟨W.heap.size, 1, none⟩ v).heap[q]? = w4.heap[q]? := fun q hq => (Below.heap_setCell _ _ _ q hq).trans (Below.heap_setCell _ _ _ q hq)
        refine ⟨⟨rfl, hT⟩, own_mono (own_kept HLo.out fun q e => ?_) hws, own_mono (own_kept hso fun q e => ?_) (by omega), ?_⟩
        · have h1 := World.ownsRow.lt HLo.out q e
          exact (hk q (by omega)).trans (hb4.block q h1.2)
        · have h1 := World.ownsRow.lt hso q e
          exact hk q (by omega)
        · exact ((HB.out.trans (hb34.mono hws)).setCell (p := ⟨W.heap.size, 0, none⟩) (Nat.le_refl _) _).setCell (p := ⟨W.heap.size, 1, none⟩) (Nat.le_refl _) _
      clear CS hso hb4 hb34 hrc hT HLo HB3 HB HRc
      go_wp2
      (try simp only [Exit.inBlock, Exit.then])
      refine bodyPost_ret (v := .agg #[.slice la' x.1.length lc', .slice sa' jl.length sc']) (by rw [results_cell1S rfl]; go_simp) rfl ?_
      have hf := HF.out (.slice la' x.1.length lc') (.slice sa' jl.length sc')
      first | exact ⟨_, _, (x.1, jl), rfl, hf.1, hf.2.1, hf.2.2.1, hf.2.2.2⟩ | exact ⟨_, _, x.1, jl, rfl, hf.1, hf.2.1, hf.2.2.1, hf.2.2.2⟩
end Go.Proofs.YtamcclcbmenjdaaGreatDoor

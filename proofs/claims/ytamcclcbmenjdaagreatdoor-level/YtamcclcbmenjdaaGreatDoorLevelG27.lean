/- 'choirkeep.Level', for any list of steps (100 of them are done): when all are up, nothing is under way, and each has told each other one, all have the same, and compacted logs are the same bytes. The first form's statement and its card: no condition beside the row's own. -/
import Derived.Test.YtamcclcbmenjdaaGreatDoorLevelG26
/- join's rests (of samples): takeAlike. -/
namespace Go.Proofs.YtamcclcbmenjdaaGreatDoor
open Go.RowKit Go.Lib

theorem Tryz.infoElS : (Tryz.prog.info? 34).map (fun i => (i.zero, i.size, i.bytes)) = some (some (.agg #[(.int .i64 0), (.int .u64 0)]), 2, 16) := by kernel_rfl
/-- What the heap's top is in memory. -/
theorem HeapS.top {w0 : World} {K : Nat → Obj → Prop} {W : World} {hb : Nat} {ms : List (List (Int × Nat))} (h : HeapS w0 K W hb ms) (h0 : ms ≠ []) :
    ∃ g n c y t b o k a0 a1, W.cell? ⟨hb, 0, none⟩ = some (.slice (some ⟨g, 0, none⟩) n c) ∧ n = ms.length ∧ W.cell? ⟨g, 0, none⟩ = some (.slice (some ⟨b, o, none⟩) (t.length + 1) k) ∧ b < w0.heap.size ∧ w0.cell? ⟨b, o, none⟩ = some a0 ∧ w0.cell? ⟨b, o + 1, none⟩ = some a1 ∧ ElS w0 y a0 a1 ∧ (y :: t) ∈ ms ∧ (∀ k ∈ ms, ∀ z, k.head? = some z → cmpT y z ≤ 0) ∧ g < W.heap.size := by
  obtain ⟨lv, vs, ls', h1, h2, h3⟩ := h
  have hlen := h2.length_eq
  have hvl := h1.lists.len
  have hpos : 0 < ls'.length := by rw [hlen]; exact List.length_pos_iff.2 h0
  obtain ⟨y, t, v, hlx, hvx, _, hdx⟩ := h1.cons (i := 0) hpos
  obtain ⟨b, o, k, a0, a1, rfl, hb0, p0, p1, hE⟩ := (h1.lists.each 0 _ _ hvx hlx).1.head
  obtain ⟨g, c, rfl, g1, _, _, _, hgl⟩ := h1.rst.get hvx
  refine ⟨g, _, c, y, t, b, o, k, a0, a1, h1.rst.c0, by omega, g1, hb0, p0, p1, hE, h2.mem_iff.1 (List.mem_of_getElem? hlx), fun k hk z hz => ?_, hgl⟩
  obtain ⟨i, hi, e⟩ := List.mem_iff_getElem.1 (h2.mem_iff.2 hk)
  have := Hp.heap_min leS_tot leS_tr h3 i (by omega)
  cases k with
  | nil => cases hz
  | cons p q =>
    cases hz
    rw [hdx, hdS_of (ls := ls') (k := i) (by rw [List.getElem?_eq_getElem hi, e])] at this
    exact this
theorem HeapS.c1 {w0 : World} {K : Nat → Obj → Prop} {W : World} {hb : Nat} {ms : List (List (Int × Nat))} (h : HeapS w0 K W hb ms) : W.cell? ⟨hb, 1, none⟩ = some (.func (.func 161) #[] #[]) := by
  obtain ⟨lv, vs, ls', h1, _⟩ := h; exact h1.rst.c1
theorem heapLenS_any {w0 : World} {K : Nat → Obj → Prop} {hb : Nat} {ms : List (List (Int × Nat))} (W : World) (h : HeapS w0 K W hb ms) :
    Calls Tryz.prog 162 #[.pointer (some ⟨hb, 0, none⟩)] W fun e w' => e = .returned (.int .i64 ms.length) ∧ W = w' := by
  obtain ⟨lv, vs, ls', h1, h2, _⟩ := h
  have := lenS_any W h1.rst
  rw [h1.lists.len, h2.length_eq] at this
  exact this.mono fun e w' ⟨a, b⟩ => ⟨a, b.symm⟩

/-- A row of its own with the cells of elements. -/
structure RowS (w0 W : World) (av : Value) (aa : List (Int × Nat)) : Prop where
  row : ∃ vals : List (Value × Value), vals.length = aa.length ∧ W.ownsRow w0.heap.size 34 2 av aa.length (serCells vals) ∧ ∀ (i : Nat) (p : Value × Value) (x : (Int × Nat)), vals[i]? = some p → aa[i]? = some x → ElS w0 x p.1 p.2
theorem RowS.kept {w0 W W' : World} {av : Value} {aa : List (Int × Nat)} (h : RowS w0 W av aa) (hk : ∀ k, av.ownBlock = some k → W'.heap[k]? = W.heap[k]?) : RowS w0 W' av aa := by
  obtain ⟨vals, h1, h2, h3⟩ := h.row
  exact ⟨vals, h1, own_kept h2 hk, h3⟩
theorem RowS.first {w0 W : World} {g n cap : Nat} {x : (Int × Nat)} {aa : List (Int × Nat)} (h : RowS w0 W (.slice (some ⟨g, 0, none⟩) n cap) (x :: aa)) : ∃ z0 z1, W.cell? ⟨g, 0, none⟩ = some z0 ∧ W.cell? ⟨g, 1, none⟩ = some z1 ∧ ElS w0 x z0 z1 ∧ g < W.heap.size := by
  obtain ⟨vals, h1, h2, h3⟩ := h.row
  obtain ⟨a, c, e⟩ := own_shape h2
  cases e
  cases vals with
  | nil => simp at h1
  | cons p r =>
    have hp := pair_get (fun x : Value × Value => x.1) (fun x => x.2) (p :: r) 0 p rfl
    exact ⟨p.1, p.2, own_cell h2 hp.1, own_cell h2 hp.2, h3 0 p x rfl rfl, (World.ownsRow.lt h2 g rfl).2⟩
/-- The heap, and a row beside it. -/
structure AlkS (w0 : World) (K : Nat → Obj → Prop) (W : World) (hb g n cap : Nat) (aa : List (Int × Nat)) (ms : List (List (Int × Nat))) : Prop where
  row : RowS w0 W (.slice (some ⟨g, 0, none⟩) n cap) aa
  heap : HeapS w0 (fun k o => K k o ∨ k = g ∧ W.heap[k]? = some o) W hb ms
  out : ∀ o, ¬ K g o

set_option maxRecDepth 100000 in
set_option maxHeartbeats 1000000 in
theorem takeAlikeS_any {w0 : World} {K : Nat → Obj → Prop} {hb : Nat} {ls : List (List (Int × Nat))} (W : World) (h : HeapS w0 K W hb ls) (hsm : ∀ k ∈ ls, ∀ x ∈ k, SmS x) (hn : ls.length ≤ 1000000000) (hfl : ls.flatten.length ≤ 1000000000000) (hr : Rests cmpT ls) (h0 : ls ≠ []) :
    Calls Tryz.prog 164 #[.pointer (some ⟨hb, 0, none⟩)] W fun e w' => ∃ av x aa ms, e = .returned av ∧ RowS w0 w' av (x :: aa) ∧ Alike cmpT ls x (x :: aa) ms ∧ (∀ y ∈ ms.flatten, cmpT x y = -1) ∧ HeapS w0 K w' hb ms ∧ W.heap.size ≤ w'.heap.size ∧ ms.length ≤ 1000000000 := by
  obtain ⟨i0, hi, hz0, hz1, hz2⟩ := info_parts Tryz.infoElS
  have C1 := hide (takeLeastS_any W h hsm hn h0)
  have HSm := hide hsm
  clear h hsm
  go_enter Tryz.func164, Tryz.ntmps164
  go_wp2_with fail
  refine C1.out.mono ?_
  rintro e w1 ⟨a0, a1, x, t, ms, rfl, hE, hP, hM, hH, hsz⟩
  obtain ⟨rfl, rfl⟩ := id hE
  clear C1
  have HR0 : Hid (RowS w0 (w1.alloc (.cells #[(.int .i64 x.1), (.int .u64 x.2)] 34)) (.slice (some ⟨w1.heap.size, 0, none⟩) 1 1) [x]) := ⟨[((.int .i64 x.1), (.int .u64 x.2))], rfl, ⟨rfl, .inr ⟨w1.heap.size, 1, #[(.int .i64 x.1), (.int .u64 x.2)], rfl, hH.below.size, alloc_heap_new _ _, Nat.le_refl _, by decide, rfl, rfl⟩⟩, fun i p y hp hy => by
    cases i with
    | zero => cases hp; cases hy; exact hE
    | succ i => simp at hp⟩
  have HA0 : Hid (AlkS w0 K (w1.alloc (.cells #[(.int .i64 x.1), (.int .u64 x.2)] 34)) hb w1.heap.size 1 1 [x] (restOf t ms)) := ⟨HR0.out, (hH.more _).move (Nat.le_refl _) (fun _ _ _ => rfl) (fun k o hk => by
      rcases hk with hk | ⟨rfl, hk⟩
      · exact ⟨(hH.more _).kp (.inl hk), .inl ⟨o, .inl hk⟩⟩
      · exact ⟨hk, .inl ⟨_, .inr ⟨rfl, rfl⟩⟩⟩) (hH.more _).below, fun o ho => by have := lt_of_heapS (hH.kp ho); omega⟩
  have HL0 := hide (Alike.first cmpT_ok hr hP (List.Perm.refl _) hM)
  have HRs := hide hr
  have HFl : Hid (∀ aa ms, Alike cmpT ls x (x :: aa) ms → aa.length + 1 + ms.flatten.length = ls.flatten.length) := fun aa ms h => by have := h.perm.length_eq; simp only [List.length_append, List.length_cons] at this; omega
  have HW0 : Hid (W.heap.size ≤ (w1.alloc (.cells #[(.int .i64 x.1), (.int .u64 x.2)] 34)).heap.size) := by show W.heap.size ≤ (w1.alloc _).heap.size; simp; omega
  have HN0 : Hid ((restOf t ms).length ≤ 1000000000) := by show (restOf t ms).length ≤ 1000000000; have := restOf_len t ms; have := hP.length_eq; simp at this; omega
  clear HR0 hH hP hM hE hr
  go_wp2_with fail
  go_loopw [3] (fun av wr => ∃ (g cap : Nat) (aa : List (Int × Nat)) (ms : List (List (Int × Nat))), av = .slice (some ⟨g, 0, none⟩) (aa.length + 1) cap ∧ Hid (AlkS w0 K wr hb g (aa.length + 1) cap (x :: aa) ms) ∧ Hid (Alike cmpT ls x (x :: aa) ms) ∧ Hid (W.heap.size ≤ wr.heap.size) ∧ Hid (ms.length ≤ 1000000000)) (fun av _ => ls.flatten.length - sliceLen av)
  case atStart => exact ⟨_, _, [], _, rfl, HA0.out, HL0.out, HW0.out, HN0.out⟩
  case round =>
    clear HA0 HL0 HW0 HN0
    obtain ⟨g, cap, aa, ns, rfl, HA, HL, HW, HN⟩ := hrel
    have CLen : Hid (∀ W2 : World, Below wr.heap.size wr W2 → Calls Tryz.prog 162 #[.pointer (some ⟨hb, 0, none⟩)] W2 fun e w' => e = .returned (.int .i64 ns.length) ∧ W2 = w') := fun W2 h2 => heapLenS_any W2 (HA.out.heap.kept h2)
    by_cases hns : ns = []
    · subst hns
      have HH := hide (HA.out.heap.less (K' := K) fun k o h => .inl h)
      have HRow := hide HA.out.row
      have HE := hide (HL.out.ends cmpT_ok (.inl rfl))
      clear HA
      go_wp2
      go_quiet ((go_at_call 162; exact Calls.quiet_of_same ((CLen.out _ (rest_drewN _ _)).mono fun e w2 h => ⟨h.1, h.2.symm⟩)))
      all_goals
        go_wp2
        go_ret
        exact ⟨_, x, aa, [], rfl, HRow.out.kept fun k _ => rfl, HL.out, HE.out, HH.out.kept (rest_drewN _ _), HW.out, Nat.zero_le _⟩
    · obtain ⟨g1, n1, k1, y, t1, b, o, q, d0, d1, c0, hn1, c1, hb0, p0, p1, hEy, hmem, hmin, hg1⟩ := HA.out.heap.top hns
      have f1 := HA.out.heap.c1
      have hlt := HA.out.heap.lt
      obtain ⟨z0, z1, r0, r1, hEx, hgl⟩ := HA.out.row.first
      have hbl := HA.out.heap.below
      have hs := hbl.size
      have m0 := (hbl.cell (p := ⟨b, o, none⟩) hb0).trans p0
      have m1 := (hbl.cell (p := ⟨b, o + 1, none⟩) hb0).trans p1
      have hlen := HFl.out aa ns HL.out
      have hnp : 0 < ns.length := List.length_pos_iff.2 hns
      have hnl := HN.out
      have hall : ∀ u ∈ ls.flatten, SmS u := fun u hu => by
        obtain ⟨k, hk, h⟩ := List.mem_flatten.1 hu
        exact HSm.out k hk u h
      have hsub : ∀ k ∈ ns, ∀ u ∈ k, SmS u := fun k hk u hu => hall u (HL.out.perm.mem_iff.2 (List.mem_append_right _ (List.mem_flatten.2 ⟨k, hk, hu⟩)))
      have hsx : SmS x := hall x (HL.out.perm.mem_iff.2 (by simp))
      have CC : Hid (∀ W2 : World, Below wr.heap.size wr W2 → Calls Tryz.prog 161 #[.agg #[z0, z1], .agg #[d0, d1]] W2 fun e w' => e = .returned (.int .i64 (cmpT x y)) ∧ Below wr.heap.size W2 w') := fun W2 h2 => by
        refine (cmpS_any x y z0 z1 d0 d1 w0 W2 hEx hEy (fun k hk => ((hbl.trans (h2.mono hs)).block k hk)) (Nat.le_trans hs h2.size) hsx (hsub _ hmem y (List.mem_cons_self ..))).mono fun e w' ⟨h, hb⟩ => ⟨h, hb.mono h2.size⟩
      have n0 : (0 : Int) < (ns.length : Int) := by omega
      have n1' : (0 : Int) < (n1 : Int) := by omega
      have n2 : decide ((0 : Int) < (ns.length : Int)) = true := decide_eq_true n0
      have HEx := hide hEx
      have HEy := hide hEy
      have HMem := hide hmem
      have HMin := hide hmin
      have HSub := hide hsub
      obtain ⟨rfl, rfl⟩ := id hEx; obtain ⟨rfl, rfl⟩ := id hEy
      clear hEx hEy hmem hmin hsub hbl p0 p1 hall hsx
      go_wp2
      as_aux_lemma =>
        go_region_held3 (fun w' => w'.cell? ⟨hb, 0, none⟩ = some (.slice (some ⟨g1, 0, none⟩) n1 k1) ∧ w'.cell? ⟨hb, 1, none⟩ = some (.func (.func 161) #[] #[]) ∧ w'.cell? ⟨g1, 0, none⟩ = some (.slice (some ⟨b, o, none⟩) (t1.length + 1) q) ∧ w'.cell? ⟨b, o, none⟩ = some (.int .i64 y.1) ∧ w'.cell? ⟨b, o + 1, none⟩ = some (.int .u64 y.2) ∧ w'.cell? ⟨g, 0, none⟩ = some (.int .i64 x.1) ∧ w'.cell? ⟨g, 1, none⟩ = some (.int .u64 x.2)) (go_keep) (first | (go_at_call 162; refine (CLen.out _ (Below.refl _ _).drew).mono ?_; rintro e w2 ⟨rfl, rfl⟩) | (go_at_call 161; refine (CC.out _ (Below.refl _ _).drew).mono ?_; rintro e w2 ⟨rfl, hb3⟩; have y0 := (hb3.cell (p := ⟨hb, 0, none⟩) hlt).trans c0; have y1 := (hb3.cell (p := ⟨hb, 1, none⟩) hlt).trans f1; have y2 := (hb3.cell (p := ⟨g1, 0, none⟩) hg1).trans c1; have y4 := (hb3.cell (p := ⟨b, o, none⟩) (by show b < wr.heap.size; omega)).trans m0; have y5 := (hb3.cell (p := ⟨b, o + 1, none⟩) (by show b < wr.heap.size; omega)).trans m1; have y6 := (hb3.cell (p := ⟨g, 0, none⟩) hgl).trans r0; have y7 := (hb3.cell (p := ⟨g, 1, none⟩) hgl).trans r1))
        all_goals
          have HB := hide ((Below.refl wr.heap.size wr).drew.trans hb3)
          clear hb3 y0 y1 y2 y4 y5 y6 y7 c0 c1 f1 m0 m1 r0 r1 CC CLen
          by_cases hc : cmpT x y = 0
          · have hcd : ((cmpT x y) == (0 : Int)) = true := by simp [hc]
            have CT := hide (takeLeastS_any w2 (HA.out.heap.kept HB.out) HSub.out hnl hns)
            have HFin : Hid (∀ x' t' ms', ns.Perm ((x' :: t') :: ms') → (∀ k ∈ ns, ∀ z, k.head? = some z → cmpT x' z ≤ 0) → Alike cmpT ls x (x :: (aa ++ [x'])) (restOf t' ms') ∧ (restOf t' ms').length ≤ 1000000000) := fun x' t' ms' hP hM => by
              have h1 := hM _ HMem.out y rfl
              have h2 := HMin.out _ (hP.mem_iff.2 (List.mem_cons_self ..)) x' rfl
              have h3 := cmpT_ok.neg x' y
              refine ⟨HL.out.next hP (List.Perm.refl _) (cmpT_ok.eqv0 hc (by omega)), ?_⟩
              have h4 := restOf_len t' ms'
              have h5 := hP.length_eq
              simp at h5
              omega
            obtain ⟨og, hog⟩ : ∃ og, wr.heap[g]? = some og := ⟨_, Array.getElem?_eq_getElem hgl⟩
            have hf1 : 1 ≤ ns.flatten.length := by
              have := List.length_pos_of_mem (List.mem_flatten.2 ⟨_, HMem.out, List.mem_cons_self ..⟩ : y ∈ ns.flatten)
              omega
            clear HMem HMin HSub
            go_wp2_with fail
            refine CT.out.mono ?_
            rintro e w3 ⟨e0, e1, x', t', ms', rfl, hE', hP', hM', hH', hsz'⟩
            have hgk := hH'.kp (k := g) (.inr ⟨rfl, hog⟩)
            obtain ⟨vals, hvl, hvo, hve⟩ := HA.out.row.row
            obtain ⟨ca, cc, ce⟩ := own_shape hvo
            cases ce
            have hvo3 : w3.ownsRow w0.heap.size 34 2 (.slice (some ⟨g, 0, none⟩) (aa.length + 1) cap) (aa.length + 1) (serCells vals) := own_kept hvo fun k e => by cases e; exact hgk.trans hog.symm
            have HO3 := hide hvo3
            have HNx := hide (HFin.out x' t' ms' hP' hM')
            have HH3 := hide hH'
            have HE' := hide hE'
            have HVl := hide hvl
            have HVe := hide hve
            have hw3 := hH'.below.size
            have HS3 := hide hsz'
            obtain ⟨rfl, rfl⟩ := id hE'
            clear CT HFin hE' hP' hM' hH' hvl hvo hve hvo3
            go_wp2_with (first | (at_builtin; refine wpList_append_lies _ (by rfl) (.tmp 29) (.tmp 32) 35 (by rfl) w0.heap.size 34 i0 (.agg #[(.int .i64 0), (.int .u64 0)]) 2 16 Tryz.underlying35 hi hz0 hz1 hz2 rfl (by decide) (.slice (some ⟨g, 0, none⟩) (aa.length + 1) cap) (aa.length + 1) (serCells vals) (by rfl) (own_alloc HO3.out _) ⟨w3.heap.size, 0, none⟩ 1 1 [(Value.int .i64 x'.1), (Value.int .u64 x'.2)] (by rfl) rfl (cells_new _ _ _) (one_two rfl rfl) (by decide) (by unfold maxLen; omega) (by omega) (by simp; omega) (w3.heap.size + 1) (by simp) ?_; intro g2 cap2 w4 hown4 hgrow hat hgl4))
            all_goals
              have HA4 : Hid (AlkS w0 K w4 hb g2 (aa.length + 1 + 1) cap2 (x :: (aa ++ [x'])) (restOf t' ms')) := by
                have hK0 : ∀ k o, K k o → k ≠ g ∧ w3.heap[k]? = some o := fun k o hk => ⟨fun e => HA.out.out o (e ▸ hk), HH3.out.kp (.inl hk)⟩
                have hkeep : ∀ k, k < w3.heap.size → k ≠ g → w4.heap[k]? = w3.heap[k]? := fun k hk hne => (hgrow.block k (by simp; omega) (fun e => hne (Option.some.inj e))).trans (heap_alloc_old w3 _ hk)
                have hs4 : w3.heap.size ≤ w4.heap.size := by have := hgrow.size; simp at this; omega
                refine ⟨⟨vals ++ [((Value.int .i64 x'.1), (Value.int .u64 x'.2))], by simp [HVl.out], ?_, fun i p u hp hu => ?_⟩, ?_, fun o ho => ?_⟩
                · rw [serCells_snoc]
                  have el : (x :: (aa ++ [x'])).length = aa.length + 1 + 1 := by simp
                  rw [el]; exact hown4
                · have hu' : ((x :: aa) ++ [x'])[i]? = some u := hu
                  rcases getElem?_snoc hp with ⟨hi, hp⟩ | ⟨hi, rfl⟩
                  · rw [List.getElem?_append_left (by rw [← HVl.out]; exact hi)] at hu'
                    exact HVe.out i p u hp hu'
                  · rw [hi, HVl.out, List.getElem?_append_right (Nat.le_refl _), Nat.sub_self] at hu'
                    cases hu'
                    exact HE'.out
                · refine HH3.out.move hs4 (fun k hk hn => hkeep k hk fun e => hn og (.inr ⟨e, by rw [e]; exact hog⟩)) (fun k o hk => ?_) ((HH3.out.below.alloc hw3 _).grown hgrow (by simp; omega) fun k e => by cases e; exact (World.ownsRow.lt HO3.out _ rfl).1)
                  rcases hk with hk | ⟨rfl, hk⟩
                  · obtain ⟨h1, h2⟩ := hK0 k o hk
                    exact ⟨(hkeep k (lt_of_heapS h2) h1).trans h2, .inl ⟨o, .inl hk⟩⟩
                  · refine ⟨hk, ?_⟩
                    rcases hat with hat | hat
                    · have : g = k := Option.some.inj hat
                      subst this
                      exact .inl ⟨og, .inr ⟨rfl, hog⟩⟩
                    · exact .inr (by omega)
                · obtain ⟨h1, h2⟩ := hK0 g2 o ho
                  rcases hat with hat | hat
                  · exact h1 (Option.some.inj hat).symm
                  · have := lt_of_heapS h2; omega
              have HW4 : Hid (W.heap.size ≤ w4.heap.size) := by
                show W.heap.size ≤ w4.heap.size
                have h1 := hgrow.size; simp at h1
                have h2 := HW.out
                have h3 := HB.out.size
                have h4 := HS3.out
                omega
              clear HA hown4 hgrow hat hgl4 HO3 HH3
              go_wp2
              go_roundw
              case rel => exact ⟨g2, cap2, aa ++ [x'], _, by simp, by rw [List.length_append]; exact HA4.out, HNx.out.1, HW4.out, HNx.out.2⟩
              case measure => show ls.flatten.length - (aa.length + 1 + 1) < ls.flatten.length - (aa.length + 1); omega
          · have hcd : ((cmpT x y) == (0 : Int)) = false := by simp [hc]
            have HF : Hid (HeapS w0 K w2 hb ns) := (HA.out.heap.kept HB.out).less fun k o h => .inl h
            have HRw : Hid (RowS w0 w2 (.slice (some ⟨g, 0, none⟩) (aa.length + 1) cap) (x :: aa)) := HA.out.row.kept fun k e => by cases e; exact HB.out.block g hgl
            have HE := hide (HL.out.ends cmpT_ok (.inr ⟨y, hc, List.mem_flatten.2 ⟨_, HMem.out, List.mem_cons_self ..⟩, HMin.out⟩))
            have HW2 : Hid (W.heap.size ≤ w2.heap.size) := Nat.le_trans HW.out HB.out.size
            clear HA
            go_wp2
            go_ret
            exact ⟨_, x, aa, ns, rfl, HRw.out, HL.out, HE.out, HF.out, HW2.out, HN.out⟩
end Go.Proofs.YtamcclcbmenjdaaGreatDoor

/- join's rests (of samples): restsOf. -/
namespace Go.Proofs.YtamcclcbmenjdaaGreatDoor
open Go.RowKit Go.Lib

/-- A row of lists in memory, some of them maybe empty. -/
def RowsS (w : World) (v : Value) (ls : List (List (Int × Nat))) : Prop :=
  ∃ a cap, v = .slice a ls.length cap ∧ ∀ i l, ls[i]? = some l → ∃ b o la lc, a = some ⟨b, o, none⟩ ∧ b < w.heap.size ∧ w.cell? ⟨b, o + i, none⟩ = some (.slice la l.length lc) ∧ SamplesAt w w.heap.size (.slice la l.length lc) l
theorem HeapS.zero (W : World) : HeapS W (fun _ _ => False) (W.alloc (.cells #[.slice none 0 0, .func (.func 161) #[] #[]] 268)) W.heap.size [] := by
  refine ⟨.slice none 0 0, [], [], ⟨⟨(Below.refl _ _).alloc (Nat.le_refl _) _, Nat.le_refl _, by simp, World.cell?_alloc_new _ _ _ 0, World.cell?_alloc_new _ _ _ 1, World.frozen?_alloc_new _ _ _ 0, World.ownsRow_nil _ _ _ _, (fun e => (by cases e)), (fun k o h => False.elim h)⟩, ⟨rfl, fun i v l h _ => by simp at h⟩, rfl⟩, List.Perm.refl _, fun k _ h => by simp at h⟩

set_option maxRecDepth 100000 in
set_option maxHeartbeats 1000000 in
theorem restsOfS_any {ls : List (List (Int × Nat))} (W : World) (v : Value) (hv : RowsS W v ls) (hsm : ∀ k ∈ ls, ∀ x ∈ k, SmS x) (hn : ls.length ≤ 1000000000) :
    Calls Tryz.prog 160 #[v, .func (.func 161) #[] #[]] W fun e w' => ∃ hb, e = .returned (.pointer (some ⟨hb, 0, none⟩)) ∧ HeapS W (fun _ _ => False) w' hb (full ls) := by
  obtain ⟨a, cap, rfl, hv⟩ := hv
  have HV := hide hv
  have HSm := hide hsm
  have H0 := hide (HeapS.zero W)
  clear hv hsm
  go_enter Tryz.func160, Tryz.ntmps160
  go_wp2
  go_loopw [7, 13] (fun _ iv wr => ∃ (i : Nat), i ≤ ls.length ∧ iv = .int .i64 i ∧ Hid (HeapS W (fun _ _ => False) wr W.heap.size (full (ls.take i)))) (fun _ iv _ => ls.length - (intOf iv).toNat)
  case atStart => exact ⟨0, Nat.zero_le _, rfl, H0.out⟩
  case round =>
    clear H0
    obtain ⟨i, hi, rfl, H⟩ := hrel
    by_cases hlt : i < ls.length
    · obtain ⟨l, hl⟩ : ∃ l, ls[i]? = some l := ⟨_, List.getElem?_eq_getElem hlt⟩
      obtain ⟨b, o, la, lc, rfl, hb0, c0, hA⟩ := HV.out i l hl
      have hbl := H.out.below
      have m0 := (hbl.cell (p := ⟨b, o + i, none⟩) hb0).trans c0
      have ht := take_more ls i l hl
      have C := hide (addS_any wr H.out la lc l hA (fun k hk x hx => by
        rcases List.mem_cons.1 hk with rfl | hk
        · exact HSm.out _ (List.mem_of_getElem? hl) x hx
        · exact HSm.out k (List.mem_of_mem_take (List.mem_filter.1 hk).1) x hx) (by have := full_len (ls.take i); have := List.length_take_le i ls; omega))
      have HP : Hid (∀ w', HeapS W (fun _ _ => False) w' W.heap.size (restOf l (full (ls.take i))) → HeapS W (fun _ _ => False) w' W.heap.size (full (ls.take (i + 1)))) := fun w' h => by
        rw [ht]; exact h.perm (full_snoc _ _)
      have i1 : (i : Int) < (ls.length : Int) := by omega
      clear hl hA c0 hbl ht H
      go_wp2_with fail
      refine C.out.mono ?_
      rintro e w1 ⟨rfl, h1⟩
      have H1 := hide (HP.out _ h1)
      clear h1 C HP m0
      go_wp2
      go_roundw
      case rel => exact ⟨i + 1, by omega, by go_num, H1.out⟩
      case measure => simp [intOf]; omega
    · have hi' : i = ls.length := by omega
      have HE : Hid (HeapS W (fun _ _ => False) wr W.heap.size (full ls)) := by
        have h := H.out
        rw [hi', List.take_length] at h; exact h
      have i1 : ¬ (i : Int) < (ls.length : Int) := by omega
      clear H hi'
      go_wp2
      go_ret
      exact ⟨_, rfl, HE.out⟩
end Go.Proofs.YtamcclcbmenjdaaGreatDoor

/- slices.MaxFunc of samples by their bits. -/
namespace Go.Proofs.YtamcclcbmenjdaaGreatDoor
open Go.RowKit Go.Lib

set_option maxHeartbeats 400000 in
theorem isNaNU_any (x : Nat) (w : World) : Calls Tryz.prog 209 #[.int .u64 x] w fun e w' => e = .returned (.bool false) ∧ w' = w := by
  go_enter Tryz.func209, Tryz.ntmps209
  go_wp2
  go_ret
  exact ⟨by simp, rfl⟩
set_option maxRecDepth 100000 in
set_option maxHeartbeats 400000 in
theorem compareU_any (x y : Nat) (w : World) : Calls Tryz.prog 196 #[.int .u64 x, .int .u64 y] w fun e w' => e = .returned (.int .i64 (cmpI x y)) ∧ w' = w := by
  have C := hide isNaNU_any
  by_cases h1 : (x : Int) < (y : Int)
  · have HE : Hid (cmpI x y = -1) := if_pos h1
    go_enter Tryz.func196, Tryz.ntmps196
    go_wp2_with (go_at_call 209; refine (C.out _ _).mono ?_; rintro e w' ⟨rfl, rfl⟩)
    go_ret
    exact ⟨ret_int HE.out.symm, rfl⟩
  · by_cases h2 : (y : Int) < (x : Int)
    · have HE : Hid (cmpI x y = 1) := by show (if (x : Int) < y then (-1 : Int) else if (y : Int) < x then 1 else 0) = 1; rw [if_neg h1, if_pos h2]
      go_enter Tryz.func196, Tryz.ntmps196
      go_wp2_with (go_at_call 209; refine (C.out _ _).mono ?_; rintro e w' ⟨rfl, rfl⟩)
      go_ret
      exact ⟨ret_int HE.out.symm, rfl⟩
    · have HE : Hid (cmpI x y = 0) := by show (if (x : Int) < y then (-1 : Int) else if (y : Int) < x then 1 else 0) = 0; rw [if_neg h1, if_neg h2]
      go_enter Tryz.func196, Tryz.ntmps196
      go_wp2_with (go_at_call 209; refine (C.out _ _).mono ?_; rintro e w' ⟨rfl, rfl⟩)
      go_ret
      exact ⟨ret_int HE.out.symm, rfl⟩
set_option maxRecDepth 100000 in
set_option maxHeartbeats 400000 in
theorem compareBits_any (x y : Int × Nat) (w : World) :
    Calls Tryz.prog 165 #[.agg #[.int .i64 x.1, .int .u64 x.2], .agg #[.int .i64 y.1, .int .u64 y.2]] w fun e w' => e = .returned (.int .i64 (cmpI x.2 y.2)) ∧ Below w.heap.size w w' := by
  have C := hide compareU_any
  go_enter Tryz.func165, Tryz.ntmps165
  go_wp2_with (go_at_call 196; refine (C.out _ _ _).mono ?_; rintro e w' ⟨rfl, rfl⟩)
  go_ret
  exact ⟨rfl, ((Below.refl _ _).alloc (Nat.le_refl _) _).alloc (by simp) _⟩

theorem two_set {w : World} {r : Nat} {z0 z1 : Value} {ty : TypeId} (h : w.heap[r]? = some (.cells #[z0, z1] ty)) (u v : Value) : ((w.setCell ⟨r, 0, none⟩ u).setCell ⟨r, 1, none⟩ v).heap[r]? = some (.cells #[u, v] ty) := by
  have h1 : (w.setCell ⟨r, 0, none⟩ u).heap[r]? = some (.cells #[u, z1] ty) := by
    rw [setCell_eq_setRow w r 0 _ ty (0, 0) u h]; exact setRow_heap w r _ _ ty (0, 0) h
  rw [setCell_eq_setRow _ r 1 _ ty (0, 0) v h1]; exact setRow_heap _ r _ _ ty (0, 0) h1
theorem cmpI_pos (x y : Nat) : 0 < cmpI x y ↔ y < x := by
  unfold cmpI
  split
  · omega
  · split <;> omega

set_option maxRecDepth 100000 in
set_option maxHeartbeats 1000000 in
theorem maxBits_any (W : World) (b n cap : Nat) (l : List (Int × Nat)) (hl : l ≠ []) (hn : n = l.length) (hb : b < W.heap.size) (hc : ∀ i x, l[i]? = some x → W.cell? ⟨b, i * 2, none⟩ = some (.int .i64 x.1) ∧ W.cell? ⟨b, i * 2 + 1, none⟩ = some (.int .u64 x.2)) (hlen : l.length ≤ 10000000000000) :
    Calls Tryz.prog 163 #[.slice (some ⟨b, 0, none⟩) n cap, .func (.func 165) #[] #[]] W fun e w' => ∃ m, e = .returned (.agg #[.int .i64 m.1, .int .u64 m.2]) ∧ m ∈ l ∧ (∀ x ∈ l, x.2 ≤ m.2) ∧ Below W.heap.size W w' := by
  subst hn
  obtain ⟨x0, r, rfl⟩ := List.exists_cons_of_ne_nil hl
  have HC := hide hc
  have C := hide compareBits_any
  have c0 := (hc 0 x0 rfl).1
  have c1 := (hc 0 x0 rfl).2
  simp only [Nat.zero_mul, Nat.zero_add] at c0 c1
  have hlen' : r.length + 1 ≤ 10000000000000 := hlen
  clear hc hl hlen
  go_enter Tryz.func163, Tryz.ntmps163
  go_wp2
  go_loopw [6] (fun iv wr => ∃ (i : Nat) (m : Int × Nat), 1 ≤ i ∧ i ≤ r.length + 1 ∧ iv = .int .i64 i ∧ Hid (m ∈ x0 :: r) ∧ Hid (∀ x ∈ (x0 :: r).take i, x.2 ≤ m.2) ∧ Hid (Below W.heap.size W wr) ∧ Hid (wr.heap[W.heap.size]? = some (.cells #[.int .i64 0, .int .u64 0] 34)) ∧ Hid (wr.heap[W.heap.size + 1]? = some (.cells #[.int .i64 m.1, .int .u64 m.2] 34))) (fun iv _ => r.length + 1 - (intOf iv).toNat)
  case atStart => exact ⟨1, x0, Nat.le_refl _, by omega, rfl, List.mem_cons_self .., fun x hx => by simp at hx; subst hx; exact Nat.le_refl _, ((Below.refl _ _).alloc (Nat.le_refl _) _).alloc (by simp) _, (heap_alloc_old _ _ (by simp)).trans (alloc_heap_new _ _), by show _ = _; have := alloc_heap_new (W.alloc (.cells #[.int .i64 0, .int .u64 0] 34)) (.cells #[.int .i64 x0.1, .int .u64 x0.2] 34); simpa using this⟩
  case round =>
    clear c0 c1
    obtain ⟨i, m, h1, hi, rfl, HM, HX, HB, HR, HG⟩ := hrel
    have hrs := HR.out
    have hgs := HG.out
    have hlr := lt_of_heapS hrs
    have hlg := lt_of_heapS hgs
    have d0 : wr.cell? ⟨W.heap.size + 1, 0, none⟩ = some (.int .i64 m.1) := by simp [World.cell?, hgs]
    have d1 : wr.cell? ⟨W.heap.size + 1, 1, none⟩ = some (.int .u64 m.2) := by simp [World.cell?, hgs]
    have r0 : wr.cell? ⟨W.heap.size, 0, none⟩ = some (.int .i64 0) := by simp [World.cell?, hrs]
    have r1 : wr.cell? ⟨W.heap.size, 1, none⟩ = some (.int .u64 0) := by simp [World.cell?, hrs]
    have fr0 : wr.frozen? ⟨W.heap.size, 0, none⟩ = false := by simp [World.frozen?, hrs]
    have fr1 : wr.frozen? ⟨W.heap.size, 1, none⟩ = false := by simp [World.frozen?, hrs]
    by_cases hlt : i < r.length + 1
    · obtain ⟨x, hx⟩ : ∃ x, (x0 :: r)[i]? = some x := ⟨_, List.getElem?_eq_getElem hlt⟩
      have hxm := List.mem_of_getElem? hx
      have ht := take_more (x0 :: r) i x hx
      have c0 := (HB.out.cell (p := ⟨b, i * 2, none⟩) hb).trans (HC.out i x hx).1
      have c1 := (HB.out.cell (p := ⟨b, i * 2 + 1, none⟩) hb).trans (HC.out i x hx).2
      have i1 : (i : Int) < (r.length : Int) + 1 := by omega
      have hbr : b < wr.heap.size := by omega
      have hne : ¬ b = W.heap.size + 1 := by omega
      have HXm := hide hxm
      have HT := hide ht
      clear hx hxm ht hrs hgs r0 r1 fr0 fr1
      go_wp2
      as_aux_lemma =>
        go_region_held3 (fun w' => w'.cell? ⟨b, i * 2, none⟩ = some (.int .i64 x.1) ∧ w'.cell? ⟨b, i * 2 + 1, none⟩ = some (.int .u64 x.2) ∧ w'.cell? ⟨W.heap.size + 1, 0, none⟩ = some (.int .i64 m.1) ∧ w'.cell? ⟨W.heap.size + 1, 1, none⟩ = some (.int .u64 m.2)) (go_keep) (first | (go_at_call 165; refine (C.out x m _).mono ?_; rintro e w2 ⟨rfl, hb3⟩; have y0 := (hb3.cell (p := ⟨b, i * 2, none⟩) hbr).trans c0; have y1 := (hb3.cell (p := ⟨b, i * 2 + 1, none⟩) hbr).trans c1; have y2 := (hb3.cell (p := ⟨W.heap.size + 1, 0, none⟩) hlg).trans d0; have y3 := (hb3.cell (p := ⟨W.heap.size + 1, 1, none⟩) hlg).trans d1))
        all_goals
          have hb4 : Below wr.heap.size wr w2 := (Below.refl wr.heap.size wr).drew.trans hb3
          have HB2 : Hid (Below W.heap.size W w2) := HB.out.trans (hb4.mono HB.out.size)
          have HR2 : Hid (w2.heap[W.heap.size]? = some (.cells #[.int .i64 0, .int .u64 0] 34)) := (hb4.block _ hlr).trans HR.out
          have HG2 : Hid (w2.heap[W.heap.size + 1]? = some (.cells #[.int .i64 m.1, .int .u64 m.2] 34)) := (hb4.block _ hlg).trans HG.out
          clear hb3 hb4 c0 c1 d0 d1
          by_cases hc : 0 < cmpI x.2 m.2
          · have hcd : decide (0 < cmpI x.2 m.2) = true := decide_eq_true hc
            have f0 : w2.frozen? ⟨W.heap.size + 1, 0, none⟩ = false := by simp [World.frozen?, HG2.out]
            have f1 : w2.frozen? ⟨W.heap.size + 1, 1, none⟩ = false := by simp [World.frozen?, HG2.out]
            have HS := hide (two_set HG2.out (.int .i64 x.1) (.int .u64 x.2))
            have HX2 : Hid (∀ z ∈ (x0 :: r).take (i + 1), z.2 ≤ x.2) := fun z hz => by
              rw [HT.out] at hz
              have := (cmpI_pos x.2 m.2).1 hc
              rcases List.mem_append.1 hz with hz | hz
              · have := HX.out z hz; omega
              · simp at hz; subst hz; exact Nat.le_refl _
            have HR3 : Hid (((w2.setCell ⟨W.heap.size + 1, 0, none⟩ (.int .i64 x.1)).setCell ⟨W.heap.size + 1, 1, none⟩ (.int .u64 x.2)).heap[W.heap.size]? = some (.cells #[.int .i64 0, .int .u64 0] 34)) := (Below.heap_setCell _ _ _ _ (by simp)).trans ((Below.heap_setCell _ _ _ _ (by simp)).trans HR2.out)
            have HB3 : Hid (Below W.heap.size W ((w2.setCell ⟨W.heap.size + 1, 0, none⟩ (.int .i64 x.1)).setCell ⟨W.heap.size + 1, 1, none⟩ (.int .u64 x.2))) := (HB2.out.setCell (p := ⟨W.heap.size + 1, 0, none⟩) (by simp) _).setCell (p := ⟨W.heap.size + 1, 1, none⟩) (by simp) _
            clear HB2 HR2 HG2 HX HB HR HG HT
            go_wp2
            go_roundw
            case rel => exact ⟨i + 1, x, by omega, by omega, by go_num, HXm.out, HX2.out, HB3.out, HR3.out, HS.out⟩
            case measure => simp [intOf]; omega
          · have hcd : decide (0 < cmpI x.2 m.2) = false := decide_eq_false hc
            have HX2 : Hid (∀ z ∈ (x0 :: r).take (i + 1), z.2 ≤ m.2) := fun z hz => by
              rw [HT.out] at hz
              have := fun e => hc ((cmpI_pos x.2 m.2).2 e)
              rcases List.mem_append.1 hz with hz | hz
              · exact HX.out z hz
              · simp at hz; subst hz; exact Nat.le_of_not_lt this
            clear HX HB HR HG HT
            go_wp2
            go_roundw
            case rel => exact ⟨i + 1, m, by omega, by omega, by go_num, HM.out, HX2.out, HB2.out, HR2.out, HG2.out⟩
            case measure => simp [intOf]; omega
    · have i1 : ¬ (i : Int) < (r.length : Int) + 1 := by omega
      have HA : Hid (∀ x ∈ x0 :: r, x.2 ≤ m.2) := fun x hx => HX.out x (by
        have e : i = (x0 :: r).length := by show i = r.length + 1; omega
        rw [e, List.take_length]; exact hx)
      have HB3 : Hid (Below W.heap.size W ((wr.setCell ⟨W.heap.size, 0, none⟩ (.int .i64 m.1)).setCell ⟨W.heap.size, 1, none⟩ (.int .u64 m.2))) := (HB.out.setCell (p := ⟨W.heap.size, 0, none⟩) (Nat.le_refl _) _).setCell (p := ⟨W.heap.size, 1, none⟩) (Nat.le_refl _) _
      clear HB HR HG HX hrs hgs
      go_wp2
      (try simp only [Exit.inBlock, Exit.then])
      refine bodyPost_ret (v := .agg #[.int .i64 m.1, .int .u64 m.2]) (by rw [results_cell1S rfl]; go_simp) rfl ?_
      first | exact ⟨m, rfl, HM.out, HA.out, HB3.out⟩ | exact ⟨m.1, m.2, rfl, List.mem_cons.1 HM.out, ⟨HA.out _ (List.mem_cons_self ..), fun a b h => HA.out (a, b) (List.mem_cons_of_mem _ h)⟩, HB3.out⟩
end Go.Proofs.YtamcclcbmenjdaaGreatDoor

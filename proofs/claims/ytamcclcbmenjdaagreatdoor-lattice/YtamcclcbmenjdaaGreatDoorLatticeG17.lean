/- 'choirkeep.Lattice', for any three lists of raw samples: joins do not hang on order, grouping and how often; with bytes and without it is the same. The first form's statement and its card: no condition beside the row's own. -/
import Derived.Test.YtamcclcbmenjdaaGreatDoorLatticeG14
import Derived.Test.YtamcclcbmenjdaaGreatDoorLatticeG16
import Derived.Test.YtamcclcbmenjdaaGreatDoorLatticeG13
/- The byte reader: texts. -/
namespace Go.Proofs.YtamcclcbmenjdaaGreatDoor
open Go.RowKit Go.Lib

set_option maxHeartbeats 400000 in
theorem clone_any (s : ByteArray) (w : World) (hs : s.size ≤ 140737488355328) :
    Calls Tryz.prog 103 #[.string s] w fun e w' => e = .returned (.string s) ∧ Below w.heap.size w w' := by
  have C := hide (Tryz.stringslite_Clone s w (by omega))
  go_enter Tryz.func103, Tryz.ntmps103
  go_wp2_with fail
  refine C.out.mono ?_
  rintro e w1 ⟨rfl, hb⟩
  have HB := hide hb
  clear hb C
  go_wp2
  go_ret
  exact ⟨rfl, HB.out⟩

set_option maxRecDepth 100000 in
set_option maxHeartbeats 400000 in
theorem texts_any (yb yo : Nat) (p : Rest) (w : World) (H : YR w yb yo p.1 p.2) (hs : Short 140737488355328 p) :
    Calls Tryz.prog 106 #[.pointer (some ⟨yb, yo, none⟩)] w fun e w' => ∃ v, e = .returned v ∧ w'.ownsRow w.heap.size 9 1 v (textsR p).1.length (Strs (textsR p).1) ∧
      YR w' yb yo (textsR p).2.1 (textsR p).2.2 ∧ Rd w w' yb yo := by
  obtain ⟨i0, hi, hz0, hz1, hz2⟩ := info_parts Tryz.infoStr
  have hyw := H.lt
  have C := hide (number_is yb yo p.2 p.1 64 w H hs.1)
  have hn4' : (numR p.1 64 p.2).1 ≤ 64 := num_nat p 64
  have hs1 := short_num hs 64
  have HE : Hid (textsR p = seqTo (fun s => textR s.1 16 s.2) (numR p.1 64 p.2).2 (numR p.1 64 p.2).1) := rfl
  generalize numR p.1 64 p.2 = r at *
  obtain ⟨n, p1⟩ := r
  simp only at C hn4' hs1 HE
  have HSh := hide hs1
  clear H hs hs1
  go_enter Tryz.func106, Tryz.ntmps106
  go_wp2_with fail
  refine C.out.mono ?_
  rintro e w1 ⟨rfl, hY, hR⟩
  have HY := hide hY
  have HR := hide hR
  have hsz := hR.size
  clear hY hR C
  go_wp2_with (first | (at_make; refine wpList_make_own _ rfl _ _ 22 rfl w.heap.size 9 i0 _ 1 Tryz.underlying22 hi hz0 hz1 .i64 .i64 _ n rfl rfl rfl (by rw [hz2]; omega) (by unfold maxLen; omega) hsz ?_; intro w2 hown2 hgrow2))
  have HY2 := hide (HY.out.grown hgrow2 (by simp))
  have HR2 := hide (HR.out.grown hgrow2 (by simp))
  have HO2 := hide hown2
  clear hown2 hgrow2 HY HR
  go_wp2
  go_loopw [4, 10] (fun o i wr => ∃ k : Nat, k ≤ n ∧ i = .int .i64 k ∧ o = .slice (some ⟨w1.heap.size, 0, none⟩) k n ∧ wr.ownsRow w.heap.size 9 1 (.slice (some ⟨w1.heap.size, 0, none⟩) k n) k (Strs (seqTo (fun s => textR s.1 16 s.2) p1 k).1) ∧
      YR wr yb yo (seqTo (fun s => textR s.1 16 s.2) p1 k).2.1 (seqTo (fun s => textR s.1 16 s.2) p1 k).2.2 ∧ Rd w wr yb yo) (fun _ i _ => n - (intOf i).toNat)
  case atStart => exact ⟨0, Nat.zero_le _, rfl, rfl, HO2.out, HY2.out, HR2.out⟩
  case round =>
    obtain ⟨k, hk, rfl, rfl, hO, hY, hR⟩ := hrel
    have HO := hide hO
    have HR := hide hR
    by_cases hlt : k < n
    · have hS := seqTo_inv (fun s => textR s.1 16 s.2) (Short 140737488355328) (fun _ h => short_text h 16) p1 HSh.out k
      have hsz1 := hR.size
      have C1 := hide (text_is yb yo (seqTo (fun s => textR s.1 16 s.2) p1 k).2.2 (seqTo (fun s => textR s.1 16 s.2) p1 k).2.1 16 wr hY hS.1)
      have hxs := Nat.le_trans (textR_len (seqTo (fun s => textR s.1 16 s.2) p1 k).2.1 16 (seqTo (fun s => textR s.1 16 s.2) p1 k).2.2) hS.1
      have HX : Hid ((seqTo (fun s => textR s.1 16 s.2) p1 (k + 1)).1 = (seqTo (fun s => textR s.1 16 s.2) p1 k).1 ++ [(textR (seqTo (fun s => textR s.1 16 s.2) p1 k).2.1 16 (seqTo (fun s => textR s.1 16 s.2) p1 k).2.2).1]) := rfl
      have HX2 : Hid ((seqTo (fun s => textR s.1 16 s.2) p1 (k + 1)).2 = (textR (seqTo (fun s => textR s.1 16 s.2) p1 k).2.1 16 (seqTo (fun s => textR s.1 16 s.2) p1 k).2.2).2) := rfl
      generalize (seqTo (fun s => textR s.1 16 s.2) p1 k).2 = q at *
      generalize (seqTo (fun s => textR s.1 16 s.2) p1 k).1 = done at *
      generalize textR q.1 16 q.2 = a1 at *
      obtain ⟨x1, q1⟩ := a1
      simp only at C1 HX HX2 hxs
      clear hO hY hR hS HY2 HR2 HO2
      go_wp2_with fail
      refine C1.out.mono ?_
      rintro e w3 ⟨rfl, hY3, hR3⟩
      have HO3 := hide (own_rd HO.out hR3 hyw)
      have HR3 := hide (HR.out.trans hR3)
      have HY3 := hide hY3
      have C2 := hide (clone_any x1 w3 hxs)
      clear hY3 hR3 C1 HO HR
      go_wp2_with fail
      refine C2.out.mono ?_
      rintro e w4 ⟨rfl, hb4⟩
      have HO4 := hide (own_kept HO3.out fun k hk => hb4.block k (World.ownsRow.lt HO3.out k hk).2)
      have HR4 := hide (HR3.out.below hb4)
      have HY4 := hide (HY3.out.kept (hb4.block yb HY3.out.lt))
      have hsz4 := HR4.out.size
      clear hb4 C2 HO3 HR3 HY3
      go_wp2_with (first | (at_builtin; refine wpList_append_own_spare _ rfl (.tmp 12) (.tmp 16) 22 rfl w.heap.size 9 i0 1 Tryz.underlying22 hi hz1 w1.heap.size k n _ rfl (own_alloc HO4.out _) ⟨w4.heap.size, 0, none⟩ 1 1 [.string x1] rfl rfl (cells_new _ _ _) (one_one rfl) (by omega) ?_))
      intro w5 hown5 hgrow5
      have hylt : some yb ≠ some w1.heap.size := fun e => by have := Option.some.inj e; omega
      have HO5 : Hid (w5.ownsRow w.heap.size 9 1 (.slice (some ⟨w1.heap.size, 0, none⟩) (k + 1) n) (k + 1) (Strs (seqTo (fun s => textR s.1 16 s.2) p1 (k + 1)).1)) := by
        rw [HX.out, Strs, List.map_append]; exact hown5
      have HY5 : Hid (YR w5 yb yo (seqTo (fun s => textR s.1 16 s.2) p1 (k + 1)).2.1 (seqTo (fun s => textR s.1 16 s.2) p1 (k + 1)).2.2) := by
        rw [HX2.out]; exact (HY4.out.alloc _).grown hgrow5 hylt
      have HR5 := hide ((HR4.out.alloc (.cells #[.string x1] 9)).grown hgrow5 (fun b e => by have := Option.some.inj e; omega))
      clear hown5 hgrow5 HO4 HY4 HR4 HX HX2
      go_wp2
      go_roundw
      case rel => exact ⟨k + 1, by omega, by go_num, rfl, HO5.out, HY5.out, HR5.out⟩
      case measure => simp [intOf]; omega
    · have hke : k = n := by omega
      subst hke
      have HY := hide hY
      clear hO hY hR
      go_wp2
      go_ret
      rw [HE.out]
      exact ⟨_, rfl, by rw [seqTo_length]; exact HO.out, HY.out, HR.out⟩
end Go.Proofs.YtamcclcbmenjdaaGreatDoor

/- unpackPayload. -/
namespace Go.Proofs.YtamcclcbmenjdaaGreatDoor
open Go.RowKit Go.Lib

theorem texts_at {base : Nat} {w : World} {v : Value} {l : List ByteArray} (h : w.ownsRow base 9 1 v l.length (Strs l)) (hb : 0 < w.heap.size) : ∃ tb, TextsAt w v tb l ∧ tb < w.heap.size ∧ (tb = 0 ∨ base ≤ tb) := by
  have hlt := fun k e => World.ownsRow.lt h k e
  rcases h.2 with ⟨rfl, h0⟩ | ⟨g, cap, cur, rfl, hg, hh, hc, _⟩
  · exact ⟨0, ⟨.inl ⟨List.eq_nil_of_length_eq_zero h0, _, _, rfl⟩⟩, hb, .inl rfl⟩
  · refine ⟨g, ⟨.inr ⟨0, cap, rfl, fun i x hx => ?_⟩⟩, (hlt g rfl).2, .inr hg⟩
    rw [Nat.zero_add]
    exact own_cell h (by simp [Strs, hx])
theorem YR.init {w : World} {s : ByteArray} : YR (w.alloc (.cells #[.string s, .int .i64 0] 161)) w.heap.size 0 s 0 :=
  ⟨World.cell?_alloc_new _ _ _ 0, World.cell?_alloc_new _ _ _ 1, World.frozen?_alloc_new _ _ _ 0, World.frozen?_alloc_new _ _ _ 1⟩

set_option maxRecDepth 100000 in
set_option maxHeartbeats 400000 in
theorem unpackPayload_any (s : ByteArray) (w : World) (hs : s.size ≤ 140737488355328) (hT : Tabs w) :
    Calls Tryz.prog 81 #[.string s] w fun e w' => ∃ v, e = .returned (.tuple #[v, .int .i64 (payR s).2.2]) ∧ Fresh w' w.heap.size v (payR s).1 ∧ Below w.heap.size w w' := by
  obtain ⟨i0, hi, hz0, hz1, hz2⟩ := info_parts Tryz.infoSer
  have h3 := hT.lt
  have hY0 := YR.init (w := w) (s := s)
  have hT0 := hT.alloc (.cells #[.string s, .int .i64 0] 161)
  have hS0 : Short 140737488355328 ((s, 0) : Rest) := ⟨hs, by omega⟩
  have C1 := hide (texts_any w.heap.size 0 (s, 0) _ hY0 hS0)
  have hS1 := short_texts hS0
  have HE : Hid (payR s = seqTo (serR (textsR (s, 0)).1) (numR (textsR (s, 0)).2.1 8 (textsR (s, 0)).2.2).2 (numR (textsR (s, 0)).2.1 8 (textsR (s, 0)).2.2).1) := rfl
  have htl : (textsR (s, 0)).1.length ≤ 64 := by
    unfold textsR; rw [seqTo_length]; exact num_nat (s, 0) 64
  generalize textsR (s, 0) = t at *
  obtain ⟨texts, p1⟩ := t
  simp only at C1 hS1 HE htl
  have HB0 : Hid (Below w.heap.size w (w.alloc (.cells #[.string s, .int .i64 0] 161))) := (Below.refl _ _).alloc (Nat.le_refl _) _
  have HT0 := hide hT0
  clear hY0 hT0 hS0 hT
  go_enter Tryz.func81, Tryz.ntmps81
  go_wp2_with fail
  refine C1.out.mono ?_
  rintro e w1 ⟨tv, rfl, hO1, hY1, hR1⟩
  have hT1 := HT0.out.rd hR1 (by omega)
  have HB1 := hide (below_rd HB0.out hR1 (by simp) (Nat.le_refl _))
  obtain ⟨tb, hTx, htbw, htb⟩ := texts_at hO1 (by have := hT1.lt; omega)
  have htb1 : tb ≠ w.heap.size := by
    rcases htb with h | h
    · omega
    · simp at h; omega
  obtain ⟨ta, tc, rfl⟩ := own_shape hO1
  have C2 := hide (number_is w.heap.size 0 p1.2 p1.1 8 w1 hY1 hS1.1)
  have hn : (numR p1.1 8 p1.2).1 ≤ 8 := num_nat p1 8
  have hS2 := short_num hS1 8
  generalize numR p1.1 8 p1.2 = r at *
  obtain ⟨n, p2⟩ := r
  simp only at C2 hn hS2 HE
  have HTx := hide hTx
  have HT1 := hide hT1
  clear hY1 hO1 hR1 hTx hT1 C1 HT0 HB0 hS1 htb
  go_wp2_with fail
  refine C2.out.mono ?_
  rintro e w2 ⟨rfl, hY2, hR2⟩
  have HTx2 := hide (HTx.out.kept (hR2.block tb htbw htb1))
  have HT2 := hide (HT1.out.rd hR2 (by omega))
  have HB2 := hide (below_rd HB1.out hR2 HB1.out.size (Nat.le_refl _))
  have htbw2 : tb < w2.heap.size := Nat.lt_of_lt_of_le htbw hR2.size
  have HY2 := hide hY2
  have hyw := hY2.lt
  clear hY2 hR2 C2 HTx HT1 HB1
  go_wp2_with (first | (at_make; refine wpList_make_own _ rfl _ _ 39 rfl (w.heap.size + 1) 38 i0 _ 2 Tryz.underlying39 hi hz0 hz1 .i64 .i64 _ n rfl rfl rfl (by rw [hz2]; omega) (by unfold maxLen; omega) (by omega) ?_; intro w3 hown3 hgrow3))
  have hsz3 := hgrow3.size
  have HTx3 := hide (HTx2.out.kept (hgrow3.block tb htbw2 (by simp)))
  have HT3 := hide (HT2.out.kept (hgrow3.block _ (by omega) (by simp)) (hgrow3.block _ (by omega) (by simp)))
  have HY3 := hide (HY2.out.grown hgrow3 (by simp))
  have HB3 := hide (below_grownAt HB2.out hgrow3 HB2.out.size (by simp))
  have HO3 := hide hown3
  have HSh := hide hS2
  generalize hg : w2.heap.size = g at *
  have hgw : g < w3.heap.size := (World.ownsRow.lt hown3 g rfl).2
  clear hown3 hgrow3 HTx2 HT2 HY2 HB2 hS2
  go_wp2
  go_loopw [7, 8, 16] (fun o _ i wr => ∃ (k : Nat) (vals : List (Value × Value)), k ≤ n ∧ i = .int .i64 k ∧ o = .slice (some ⟨g, 0, none⟩) k n ∧ wr.ownsRow (w.heap.size + 1) 38 2 (.slice (some ⟨g, 0, none⟩) k n) k (serCells vals) ∧ Sers wr (g + 1) vals (seqTo (serR texts) p2 k).1 ∧
      YR wr w.heap.size 0 (seqTo (serR texts) p2 k).2.1 (seqTo (serR texts) p2 k).2.2 ∧ TextsAt wr (.slice ta texts.length tc) tb texts ∧ Tabs wr ∧ Below w.heap.size w wr ∧ w3.heap.size ≤ wr.heap.size) (fun _ _ i _ => n - (intOf i).toNat)
  case atStart => exact ⟨0, [], Nat.zero_le _, rfl, rfl, HO3.out, Sers.nil _ _, HY3.out, HTx3.out, HT3.out, HB3.out, Nat.le_refl _⟩
  case round =>
    obtain ⟨k, vals, hk, rfl, rfl, hO, hSr, hY, hTx, hTb, hB, hsz⟩ := hrel
    have HO := hide hO
    have HSr := hide hSr
    have HB := hide hB
    clear HO3 HY3 HTx3 HT3 HB3
    by_cases hlt : k < n
    · have hS := seqTo_inv (serR texts) (Short 140737488355328) (fun _ h => short_ser texts h) p2 HSh.out k
      have C3 := hide (labels_any w.heap.size 0 tb (seqTo (serR texts) p2 k).2 _ texts wr hY hS hTx htb1 (by omega) (by omega))
      have hS3 := short_labs texts hS
      have HX1 : Hid ((seqTo (serR texts) p2 (k + 1)).1 = (seqTo (serR texts) p2 k).1 ++ [((labsR texts (seqTo (serR texts) p2 k).2).1, (samplesR (labsR texts (seqTo (serR texts) p2 k).2).2).1)]) := rfl
      have HX2 : Hid ((seqTo (serR texts) p2 (k + 1)).2 = (samplesR (labsR texts (seqTo (serR texts) p2 k).2).2).2) := rfl
      generalize (seqTo (serR texts) p2 k).2 = q at *
      generalize (seqTo (serR texts) p2 k).1 = done at *
      generalize labsR texts q = a1 at *
      obtain ⟨l1, q1⟩ := a1
      simp only at C3 hS3 HX1 HX2
      have HTx := hide hTx
      have HTb := hide hTb
      clear hO hSr hY hTx hTb hB hS
      go_wp2_with fail
      refine C3.out.mono ?_
      rintro e w4 ⟨lv, rfl, hO4, hY4, hR4⟩
      have hsz4 := hR4.size
      have HL4 := hide hO4
      have HO4 := hide (own_rd HO.out hR4 (by omega))
      have HSr4 := hide (HSr.out.kept fun j hj hjw => hR4.block j hjw (by omega))
      have HTx4 := hide (HTx.out.kept (hR4.block tb (by omega) htb1))
      have HTb4 := hide (HTb.out.rd hR4 (by omega))
      have HB4 := hide (below_rd HB.out hR4 HB.out.size (Nat.le_refl _))
      have C4 := hide (samples_any w.heap.size 0 q1 w4 hY4 hS3 HTb4.out (by omega))
      obtain ⟨la, lc, rfl⟩ := own_shape hO4
      generalize samplesR q1 = a2 at *
      obtain ⟨l2, q2⟩ := a2
      simp only at C4 HX1 HX2
      clear hO4 hY4 hR4 C3 HO HSr HTx HTb HB
      go_wp2_with fail
      refine C4.out.mono ?_
      rintro e w5 ⟨sv, rfl, hO5, hY5, hR5⟩
      have hsz5 := hR5.size
      have HM5 := hide (own_mono hO5 (show g + 1 ≤ w4.heap.size by omega))
      have HL5 := hide (own_mono (own_rd HL4.out hR5 (by omega)) (show g + 1 ≤ wr.heap.size by omega))
      have HO5 := hide (own_rd HO4.out hR5 (by omega))
      have HSr5 := hide (HSr4.out.kept fun j hj hjw => hR5.block j hjw (by omega))
      have HTx5 := hide (HTx4.out.kept (hR5.block tb (by omega) htb1))
      have HTb5 := hide (HTb4.out.rd hR5 (by omega))
      have HB5 := hide (below_rd HB4.out hR5 HB4.out.size (Nat.le_refl _))
      have HY5 := hide hY5
      have hyw5 := hY5.lt
      obtain ⟨sa, sc, rfl⟩ := own_shape hO5
      clear hO5 hY5 hR5 C4 HL4 HO4 HSr4 HTx4 HTb4 HB4
      go_wp2_with (first | (at_builtin; refine wpList_append_own_spare _ rfl (.tmp 20) (.tmp 24) 39 rfl (w.heap.size + 1) 38 i0 2 Tryz.underlying39 hi hz1 g k n _ rfl (own_alloc HO5.out _) ⟨w5.heap.size, 0, none⟩ 1 1 [.slice la l1.length lc, .slice sa l2.length sc] rfl rfl (cells_new _ _ _) (one_two rfl rfl) (by omega) ?_))
      intro w6 hown6 hgrow6
      have hsz6 : w5.heap.size + 1 ≤ w6.heap.size := by have := hgrow6.size; simpa using this
      have hkeep : ∀ j, j < w5.heap.size → j ≠ g → w6.heap[j]? = w5.heap[j]? := fun j hj hne => (hgrow6.block j (by simp; omega) (fun e => hne (Option.some.inj e))).trans (heap_alloc_old w5 _ hj)
      have HO6 : Hid (w6.ownsRow (w.heap.size + 1) 38 2 (.slice (some ⟨g, 0, none⟩) (k + 1) n) (k + 1) (serCells (vals ++ [(.slice la l1.length lc, .slice sa l2.length sc)]))) := by
        rw [serCells_snoc]; exact hown6
      have HSr6 : Hid (Sers w6 (g + 1) (vals ++ [(.slice la l1.length lc, .slice sa l2.length sc)]) (seqTo (serR texts) p2 (k + 1)).1) := by
        rw [HX1.out]
        exact (HSr5.out.snoc (p := (.slice la l1.length lc, .slice sa l2.length sc)) (x := (l1, l2)) HL5.out HM5.out).kept fun j hj hjw => hkeep j hjw (by omega)
      have HY6 : Hid (YR w6 w.heap.size 0 (seqTo (serR texts) p2 (k + 1)).2.1 (seqTo (serR texts) p2 (k + 1)).2.2) := by
        rw [HX2.out]; exact HY5.out.kept (hkeep _ hyw5 (by omega))
      have HTx6 := hide (HTx5.out.kept (hkeep tb (by omega) (by omega)))
      have HTb6 := hide (HTb5.out.kept (hkeep _ (by omega) (by omega)) (hkeep _ (by omega) (by omega)))
      have HB6 : Hid (Below w.heap.size w w6) := below_grownAt (HB5.out.alloc HB5.out.size _) hgrow6 (by simp; omega) (fun b e => by have := Option.some.inj e; omega)
      clear hown6 hgrow6 hkeep HO5 HSr5 HY5 HTx5 HTb5 HB5 HL5 HM5 HX1 HX2
      go_wp2
      go_roundw
      case rel => exact ⟨k + 1, _, by omega, by go_num, rfl, HO6.out, HSr6.out, HY6.out, HTx6.out, HTb6.out, HB6.out, by omega⟩
      case measure => simp [intOf]; omega
    · have hke : k = n := by omega
      subst hke
      have c1 := hY.c1
      have HE2 := hide HE.out
      clear hO hSr hY hTx hTb hB
      go_wp2
      go_quiet (fail)
      go_wp2
      go_ret2
      rw [HE2.out]
      refine ⟨.slice (some ⟨g, 0, none⟩) k k, rfl, ⟨vals, ?_, ?_⟩, below_drewN HB.out _⟩
      · rw [seqTo_length]; exact own_mono HO.out (Nat.le_succ _)
      · exact ⟨HSr.out.1, fun i p x hp hx => ⟨own_mono (HSr.out.2 i p x hp hx).1 (by omega), own_mono (HSr.out.2 i p x hp hx).2 (by omega)⟩⟩
end Go.Proofs.YtamcclcbmenjdaaGreatDoor

/- Bits, numbers and texts that are packed are read again; what stands around a payload: pure. -/
namespace Go.Proofs.YtamcclcbmenjdaaGreatDoor

theorem byteOf_bit (f : Nat → Bool) (m : Nat) (hm : m < 8) : Pl.byteOf f / 2 ^ (7 - m) % 2 = (f m).toNat := by
  have h : ∀ b : Bool, b.toNat ≤ 1 := fun b => by cases b <;> decide
  have := h (f 0); have := h (f 1); have := h (f 2); have := h (f 3); have := h (f 4); have := h (f 5); have := h (f 6); have := h (f 7)
  have e : m = 0 ∨ m = 1 ∨ m = 2 ∨ m = 3 ∨ m = 4 ∨ m = 5 ∨ m = 6 ∨ m = 7 := by omega
  unfold Pl.byteOf
  rcases e with rfl | rfl | rfl | rfl | rfl | rfl | rfl | rfl <;> simp <;> omega
theorem bitAt_pack (l : List Bool) (i : Nat) (hi : i < l.length) : bitAt (Pl.pack l) i = (l.getD i false).toNat := by
  unfold bitAt
  have hj : i / 8 < (l.length + 7) / 8 := by omega
  have e : (Pl.pack l).getD (i / 8) 0 = Pl.byteAt l (i / 8) := by
    rw [List.getD_eq_getElem?_getD, Pl.pack, List.getElem?_map, List.getElem?_range hj]; rfl
  rw [e, Pl.byteAt_toNat, byteOf_bit _ _ (Nat.mod_lt _ (by decide))]
  show (l.getD (8 * (i / 8) + i % 8) false).toNat = _
  rw [Nat.div_add_mod]
/-- The number that bits make, the highest first. -/
def bval : List Bool → Nat → Nat
  | _, 0 => 0
  | l, k + 1 => 2 * bval l k + (l.getD k false).toNat
theorem valTo_pack (l : List Bool) (p k : Nat) (h : p + k ≤ l.length) : valTo (Pl.pack l) p k = bval (l.drop p) k := by
  induction k with
  | zero => rfl
  | succ k ih =>
    rw [valTo, bval, ih (by omega), bitAt_pack l _ (by omega)]
    congr 2
    simp only [List.getD_eq_getElem?_getD, List.getElem?_drop]
theorem bval_congr (l m : List Bool) (k : Nat) (h : ∀ i, i < k → l.getD i false = m.getD i false) : bval l k = bval m k := by
  induction k with
  | zero => rfl
  | succ k ih => rw [bval, bval, ih fun i hi => h i (by omega), h k (by omega)]
theorem bval_app (l m : List Bool) : bval (l ++ m) l.length = bval l l.length :=
  bval_congr _ _ _ fun i hi => by simp only [List.getD_eq_getElem?_getD]; rw [List.getElem?_append_left hi]
theorem bval_cons (b : Bool) (l : List Bool) (k : Nat) : bval (b :: l) (k + 1) = b.toNat * 2 ^ k + bval l k := by
  induction k with
  | zero => simp [bval]
  | succ k ih =>
    rw [bval, ih, bval, Nat.pow_succ]
    simp only [List.getD_eq_getElem?_getD, List.getElem?_cons_succ]
    cases b <;> simp <;> omega
theorem bval_bitsOf (n w : Nat) : bval (Pl.bitsOf n w) w = n % 2 ^ w := by
  induction w with
  | zero => simp [bval, Nat.mod_one]
  | succ w ih =>
    rw [Pl.bitsOf, bval_cons, ih, Nat.pow_succ, Nat.mod_mul]
    have := Nat.mod_two_eq_zero_or_one (n / 2 ^ w)
    rcases this with h | h <;> simp [h] <;> omega

/-- A chunk's bytes. -/
def packed (l : List Bool) : ByteArray := ⟨(Pl.pack l).toArray⟩
theorem packed_size (l : List Bool) : (packed l).size = (l.length + 7) / 8 := by
  show (Pl.pack l).toArray.size = _
  simp [Pl.pack_length]
theorem tk_packed (A C : List Bool) (n w st : Nat) : tk (packed (A ++ (Pl.bitsOf n w ++ C))) A.length st w = (n % 2 ^ w, A.length + w, st) := by
  have hl : (A ++ (Pl.bitsOf n w ++ C)).length = A.length + w + C.length := by simp [Pl.bitsOf_length]; omega
  unfold tk
  rw [packed_size, if_neg (by omega)]
  have : valTo (packed (A ++ (Pl.bitsOf n w ++ C))).data.toList A.length w = n % 2 ^ w := by
    show valTo (Pl.pack (A ++ (Pl.bitsOf n w ++ C))).toArray.toList A.length w = _
    rw [List.toList_toArray, valTo_pack _ _ _ (by omega), List.drop_left]
    have := bval_app (Pl.bitsOf n w) C
    rw [Pl.bitsOf_length] at this
    rw [this, bval_bitsOf]
  rw [this]
theorem tk_one (A C : List Bool) (b : Bool) (st : Nat) : tk (packed (A ++ b :: C)) A.length st 1 = (b.toNat, A.length + 1, st) := by
  have h := tk_packed A C b.toNat 1 st
  have e : Pl.bitsOf b.toNat 1 ++ C = b :: C := by cases b <;> rfl
  rw [e] at h
  rw [h]
  cases b <;> rfl
theorem mk_packed (v last st : Nat) (C : List Bool) (hv : v ≤ last) : ∀ A : List Bool, mk (packed (A ++ (markOf v last ++ C))) last A.length st = (v, A.length + (markOf v last).length, st) := by
  induction v generalizing last with
  | zero =>
    intro A
    cases last with
    | zero => simp [mk, markOf]
    | succ r =>
      have e : A ++ (markOf 0 (r + 1) ++ C) = A ++ false :: C := by simp [markOf]
      rw [e, mk, tk_one]
      simp [markOf]
  | succ v ih =>
    intro A
    cases last with
    | zero => omega
    | succ r =>
      have e : A ++ (markOf (v + 1) (r + 1) ++ C) = A ++ true :: (markOf v r ++ C) := by
        simp [markOf, List.replicate_succ]
      have e2 : A ++ true :: (markOf v r ++ C) = (A ++ [true]) ++ (markOf v r ++ C) := by simp
      rw [e, mk, tk_one, if_pos (by rfl)]
      have h := ih r (by omega) (A ++ [true])
      rw [← e2, show (A ++ [true]).length = A.length + 1 by simp] at h
      simp only [h]
      have e3 : (markOf (v + 1) (r + 1)).length = (markOf v r).length + 1 := by
        simp [markOf, List.replicate_succ]
      rw [e3]
      simp only [Prod.mk.injEq, true_and, and_true]
      omega
/-- A time that was told is read. -/
theorem way_width (e : Nat) : add64 e (stepShift (stepWay e)) % 2 ^ stepWidth (stepWay e) = add64 e (stepShift (stepWay e)) := by
  unfold add64
  by_cases h0 : stepFits e 0 = true
  · have : stepWay e = 0 := by unfold stepWay; rw [if_pos h0]
    rw [this]; unfold stepFits at h0; exact Nat.mod_eq_of_lt (of_decide_eq_true h0)
  by_cases h1 : stepFits e 1 = true
  · have : stepWay e = 1 := by unfold stepWay; rw [if_neg h0, if_pos h1]
    rw [this]; unfold stepFits at h1; exact Nat.mod_eq_of_lt (of_decide_eq_true h1)
  by_cases h2 : stepFits e 2 = true
  · have : stepWay e = 2 := by unfold stepWay; rw [if_neg h0, if_neg h1, if_pos h2]
    rw [this]; unfold stepFits at h2; exact Nat.mod_eq_of_lt (of_decide_eq_true h2)
  by_cases h3 : stepFits e 3 = true
  · have : stepWay e = 3 := by unfold stepWay; rw [if_neg h0, if_neg h1, if_neg h2, if_pos h3]
    rw [this]; unfold stepFits at h3; exact Nat.mod_eq_of_lt (of_decide_eq_true h3)
  · have : stepWay e = 4 := by unfold stepWay; rw [if_neg h0, if_neg h1, if_neg h2, if_neg h3]
    rw [this]
    show (e + 0) % 18446744073709551616 % 2 ^ 64 = (e + 0) % 18446744073709551616
    omega
theorem sub_add64 (e x : Nat) (he : e < 18446744073709551616) (hx : x < 18446744073709551616) : sub64 (add64 e x) x = e := by
  unfold sub64 add64; omega
theorem add_sub64 (a b : Nat) (ha : a < 18446744073709551616) (hb : b < 18446744073709551616) : add64 b (sub64 a b) = a := by
  unfold sub64 add64; omega
theorem stepShift_lt (k : Nat) : stepShift k < 18446744073709551616 := by unfold stepShift; split <;> omega
end Go.Proofs.YtamcclcbmenjdaaGreatDoor
namespace Go.Proofs.YtamcclcbmenjdaaGreatDoor

/-- Bytes as a string's value. -/
def BA (l : List UInt8) : ByteArray := ⟨l.toArray⟩
theorem BA_size (l : List UInt8) : (BA l).size = l.length := by show l.toArray.size = _; simp
theorem BA_list (l : List UInt8) : (BA l).data.toList = l := by show l.toArray.toList = _; simp
theorem BA_of (s : ByteArray) : BA s.data.toList = s := by cases s; simp [BA]
theorem BA_drop (a c : List UInt8) : (BA (a ++ c)).extract a.length (a ++ c).length = BA c := by
  apply ByteArray.ext
  rw [ByteArray.data_extract]
  simp [BA]
theorem BA_take (a c : List UInt8) : (BA (a ++ c)).extract 0 a.length = BA a := by
  apply ByteArray.ext
  rw [ByteArray.data_extract]
  simp [BA]

theorem getD_last (C : List UInt8) (b : UInt8) (rest : List UInt8) : ((b :: rest) ++ C).getD 0 0 = b := rfl
theorem ofNat_toNat (m : Nat) (h : m < 256) : (UInt8.ofNat m).toNat = m := by simp [UInt8.toNat_ofNat']; omega
theorem rdNum_varint (C : List UInt8) (f : Nat) : ∀ (m k F : Nat) (l : List UInt8) (most : Int), m < 2 ^ (7 * (f + 1)) → (∀ j, l.getD (k + j) 0 = (Pl.varintF f m ++ C).getD j 0) → (Pl.varintF f m).length ≤ F →
    ((numTo l k + m * 2 ^ (7 * k) : Nat) : Int) ≤ most → rdNum l most F k = some (numTo l k + m * 2 ^ (7 * k), k + (Pl.varintF f m).length) := by
  have hlast : ∀ (m k F : Nat) (l : List UInt8) (most : Int), m < 128 → l.getD k 0 = UInt8.ofNat m → 1 ≤ F → ((numTo l k + m * 2 ^ (7 * k) : Nat) : Int) ≤ most → rdNum l most F k = some (numTo l k + m * 2 ^ (7 * k), k + 1) := by
    intro m k F l most hm hl hF hmost
    obtain ⟨F', rfl⟩ : ∃ F', F = F' + 1 := ⟨F - 1, by omega⟩
    have hb : (l.getD k 0).toNat = m := by rw [hl, ofNat_toNat m (by omega)]
    have hn : numTo l (k + 1) = numTo l k + m * 2 ^ (7 * k) := by rw [numTo, hb, Nat.mod_eq_of_lt hm]
    rw [rdNum, hb, if_neg (by omega), hn, if_neg (by omega)]
  induction f with
  | zero =>
    intro m k F l most hm hl hF hmost
    have h0 := hl 0
    rw [Nat.add_zero] at h0
    exact hlast m k F l most (by omega) (by rw [h0]; rfl) (by simpa [Pl.varintF] using hF) hmost
  | succ f ih =>
    intro m k F l most hm hl hF hmost
    by_cases hs : m < 128
    · rw [Pl.varintF_small _ _ hs] at hl hF ⊢
      have h0 := hl 0
      rw [Nat.add_zero] at h0
      exact hlast m k F l most hs (by rw [h0]; rfl) (by simpa using hF) hmost
    · rw [Pl.varintF_big _ _ hs] at hl hF ⊢
      have h0 := hl 0
      rw [Nat.add_zero] at h0
      rw [List.length_cons] at hF
      obtain ⟨F', rfl⟩ : ∃ F', F = F' + 1 := ⟨F - 1, by omega⟩
      have hb : (l.getD k 0).toNat = m % 128 + 128 := by
        rw [h0]
        show (UInt8.ofNat (m % 128 + 128)).toNat = _
        exact ofNat_toNat _ (by omega)
      have hn : numTo l (k + 1) = numTo l k + m % 128 * 2 ^ (7 * k) := by rw [numTo, hb]; congr 2; omega
      have hp : 2 ^ (7 * (k + 1)) = 128 * 2 ^ (7 * k) := by rw [show 7 * (k + 1) = 7 * k + 7 by omega, Nat.pow_add]; omega
      have hsum : numTo l (k + 1) + m / 128 * 2 ^ (7 * (k + 1)) = numTo l k + m * 2 ^ (7 * k) := by
        rw [hn, hp, Nat.add_assoc]
        congr 1
        rw [← Nat.mul_assoc, ← Nat.add_mul]
        congr 1
        omega
      rw [rdNum, hb, if_pos (by omega)]
      have h := ih (m / 128) (k + 1) F' l most (by
        rw [show 7 * (f + 1 + 1) = 7 * (f + 1) + 7 by omega, Nat.pow_add] at hm; omega) (fun j => by
        have := hl (j + 1)
        rw [show k + (j + 1) = k + 1 + j by omega] at this
        rw [this]; rfl) (by omega) (by rw [hsum]; exact hmost)
      rw [h, hsum, List.length_cons]
      simp; omega
theorem varintF_len (f : Nat) : ∀ (n j : Nat), n < 2 ^ (7 * (j + 1)) → (Pl.varintF f n).length ≤ j + 1 := by
  induction f with
  | zero => intro n j _; simp [Pl.varintF]
  | succ f ih =>
    intro n j h
    by_cases hs : n < 128
    · rw [Pl.varintF_small _ _ hs]; simp
    · rw [Pl.varintF_big _ _ hs, List.length_cons]
      cases j with
      | zero => omega
      | succ j =>
        have := ih (n / 128) j (by rw [show 7 * (j + 1 + 1) = 7 * (j + 1) + 7 by omega, Nat.pow_add] at h; omega)
        omega
theorem rdNum_of (n : Nat) (C : List UInt8) (most : Int) (hn : n < 2 ^ 63) (hm : (n : Int) ≤ most) : rdNum (Pl.varint n ++ C) most (min (Pl.varint n ++ C).length 9) 0 = some (n, (Pl.varint n).length) := by
  have hl : (Pl.varint n).length ≤ 9 := varintF_len 9 n 8 hn
  have h := rdNum_varint C 9 n 0 (min (Pl.varint n ++ C).length 9) (Pl.varint n ++ C) most (by omega) (fun j => by rw [Nat.zero_add]; rfl) (by
    show (Pl.varint n).length ≤ _
    rw [List.length_append]; omega) (by simpa [numTo] using hm)
  rw [h]
  simp [numTo, Pl.varint]
theorem numR_of (n : Nat) (C : List UInt8) (most : Int) (st : Nat) (hn : n < 2 ^ 63) (hm : (n : Int) ≤ most) : numR (BA (Pl.varint n ++ C)) most st = (n, BA C, st) := by
  unfold numR
  rw [BA_list, BA_size, rdNum_of n C most hn hm]
  simp only
  rw [BA_drop]
theorem textR_of (x C : List UInt8) (most : Int) (st : Nat) (hn : x.length < 2 ^ 63) (hm : (x.length : Int) ≤ most) : textR (BA (Pl.varint x.length ++ (x ++ C))) most st = (BA x, BA C, st) := by
  unfold textR
  rw [BA_list, BA_size, rdNum_of _ _ most hn hm]
  simp only
  rw [BA_drop, BA_size, if_pos (by rw [List.length_append, List.length_append]; omega), BA_take, BA_drop]
end Go.Proofs.YtamcclcbmenjdaaGreatDoor
namespace Go.Proofs.YtamcclcbmenjdaaGreatDoor

/-- The number that the bytes from the third on make, the highest first. -/
def pszTo (l : List UInt8) : Nat → Nat
  | 0 => 0
  | k + 1 => 256 * pszTo l k + (l.getD (3 + k) 0).toNat
theorem pszTo_lt (l : List UInt8) (k : Nat) : pszTo l k < 256 ^ k := by
  induction k with
  | zero => simp [pszTo]
  | succ k ih => rw [pszTo, Nat.pow_succ]; have := (l.getD (3 + k) 0).toNat_lt; omega
/-- What stands around the payload is right. -/
structure Opens (l : List UInt8) : Prop where
  long : 11 ≤ l.length
  mark : l.take 3 = [67, 72, 1]
  size : pszTo l 4 = l.length - 11
  sum : l.drop (l.length - 4) = le32 (Pl.crc (l.take (l.length - 4)))
def inner (l : List UInt8) : List UInt8 := (l.take (l.length - 4)).drop 7
theorem be32_of (a b c d : UInt8) (n : Nat) (h : n = 256 * (256 * (256 * a.toNat + b.toNat) + c.toNat) + d.toNat) : be32 n = [a, b, c, d] := by
  have ha := a.toNat_lt
  have hb := b.toNat_lt
  have hc := c.toNat_lt
  have hd := d.toNat_lt
  have e1 : n / 16777216 % 256 = a.toNat := by omega
  have e2 : n / 65536 % 256 = b.toNat := by omega
  have e3 : n / 256 % 256 = c.toNat := by omega
  have e4 : n % 256 = d.toNat := by omega
  unfold be32
  rw [e1, e2, e3, e4]
  simp
theorem frame_of {l : List UInt8} (h : Opens l) : l = frameOf (inner l) ∧ (inner l).length = l.length - 11 := by
  obtain ⟨h1, h2, h3, h4⟩ := h
  have hl : (inner l).length = l.length - 11 := by unfold inner; rw [List.length_drop, List.length_take]; omega
  refine ⟨?_, hl⟩
  have hh : l.take (l.length - 4) = headOf (inner l) := by
    unfold headOf
    rw [hl, ← h3]
    have e : ∀ k, k < 7 → (l.take (l.length - 4))[k]? = l[k]? := fun k hk => by rw [List.getElem?_take, if_pos (by omega)]
    have hb : be32 (pszTo l 4) = [l.getD 3 0, l.getD 4 0, l.getD 5 0, l.getD 6 0] := be32_of _ _ _ _ _ (by simp only [pszTo, Nat.mul_zero, Nat.zero_add, Nat.add_zero])
    rw [hb]
    have hsplit : l.take (l.length - 4) = (l.take (l.length - 4)).take 7 ++ inner l := (List.take_append_drop 7 _).symm
    have h7 : (l.take (l.length - 4)).take 7 = [67, 72, 1] ++ [l.getD 3 0, l.getD 4 0, l.getD 5 0, l.getD 6 0] := by
      rw [List.take_take, show min 7 (l.length - 4) = 7 by omega]
      have : l.take 7 = l.take 3 ++ (l.drop 3).take 4 := by
        rw [show (7 : Nat) = 3 + 4 by rfl, List.take_add]
      rw [this, h2]
      congr 1
      apply List.ext_getElem?
      intro j
      rw [List.getElem?_take]
      by_cases hj : j < 4
      · rw [if_pos hj, List.getElem?_drop]
        have hlt : 3 + j < l.length := by omega
        have e2 : l[3 + j]? = some (l.getD (3 + j) 0) := by
          rw [List.getD_eq_getElem?_getD, List.getElem?_eq_getElem hlt]; rfl
        rw [e2]
        have e3 : j = 0 ∨ j = 1 ∨ j = 2 ∨ j = 3 := by omega
        rcases e3 with rfl | rfl | rfl | rfl <;> rfl
      · rw [if_neg hj, List.getElem?_eq_none (by simp; omega)]
    rw [hsplit, h7]
  have := (List.take_append_drop (l.length - 4) l).symm
  rw [h4] at this
  rw [hh] at this
  exact this
theorem frameOf_length (p : List UInt8) : (frameOf p).length = p.length + 11 := by
  unfold frameOf headOf; simp [be32, le32]
theorem headOf_length (p : List UInt8) : (headOf p).length = p.length + 7 := by
  unfold headOf; simp [be32]
theorem opens_of (p : List UInt8) (hp : p.length < 4294967296) : Opens (frameOf p) ∧ inner (frameOf p) = p := by
  have hl := frameOf_length p
  have hh := headOf_length p
  have ht : (frameOf p).take ((frameOf p).length - 4) = headOf p := by
    rw [hl, show p.length + 11 - 4 = (headOf p).length by omega]
    exact List.take_left
  refine ⟨⟨by omega, rfl, ?_, ?_⟩, ?_⟩
  · rw [hl]
    show 256 * (256 * (256 * (256 * 0 + (UInt8.ofNat (p.length / 16777216 % 256)).toNat) + (UInt8.ofNat (p.length / 65536 % 256)).toNat) + (UInt8.ofNat (p.length / 256 % 256)).toNat) + (UInt8.ofNat (p.length % 256)).toNat = _
    rw [ofNat_toNat _ (by omega), ofNat_toNat _ (by omega), ofNat_toNat _ (by omega), ofNat_toNat _ (by omega)]
    omega
  · rw [ht, hl, show p.length + 11 - 4 = (headOf p).length by omega]
    exact List.drop_left
  · unfold inner
    rw [ht]
    have e7 : ([67, 72, 1] ++ be32 p.length).length = 7 := rfl
    have := List.drop_left (l₁ := [67, 72, 1] ++ be32 p.length) (l₂ := p)
    rw [e7] at this
    exact this
end Go.Proofs.YtamcclcbmenjdaaGreatDoor

/- The byte reader: texts. -/
import Derived.Test.YtcidgfdiacehmaaDoorLabels
namespace Go.Proofs.YtcidgfdiacehmaaDoor
open Go.RowKit Go.Lib

set_option maxHeartbeats 400000 in
theorem clone_any (s : ByteArray) (w : World) (hs : s.size ≤ 140737488355328) :
    Calls Tryd.prog 68 #[.string s] w fun e w' => e = .returned (.string s) ∧ Below w.heap.size w w' := by
  have C := hide (Tryd.stringslite_Clone s w (by omega))
  go_enter Tryd.func68, Tryd.ntmps68
  go_wp2_with fail
  refine C.out.mono ?_
  rintro e w1 ⟨rfl, hb⟩
  have HB := hide hb
  clear hb C
  go_wp2
  go_ret
  exact ⟨rfl, HB.out⟩

set_option maxRecDepth 100000 in
set_option maxHeartbeats 400000 in
theorem texts_any (yb yo : Nat) (p : Rest) (w : World) (H : YR w yb yo p.1 p.2) (hs : Short 140737488355328 p) :
    Calls Tryd.prog 57 #[.pointer (some ⟨yb, yo, none⟩)] w fun e w' => ∃ v, e = .returned v ∧ w'.ownsRow w.heap.size 9 1 v (textsR p).1.length (Strs (textsR p).1) ∧
      YR w' yb yo (textsR p).2.1 (textsR p).2.2 ∧ Rd w w' yb yo := by
  obtain ⟨i0, hi, hz0, hz1, hz2⟩ := info_parts Tryd.infoStr
  have hyw := H.lt
  have C := hide (number_is yb yo p.2 p.1 64 w H hs.1)
  have hn4' : (numR p.1 64 p.2).1 ≤ 64 := num_nat p 64
  have hs1 := short_num hs 64
  have HE : Hid (textsR p = seqTo (fun s => textR s.1 16 s.2) (numR p.1 64 p.2).2 (numR p.1 64 p.2).1) := rfl
  generalize numR p.1 64 p.2 = r at *
  obtain ⟨n, p1⟩ := r
  simp only at C hn4' hs1 HE
  have HSh := hide hs1
  clear H hs hs1
  go_enter Tryd.func57, Tryd.ntmps57
  go_wp2_with fail
  refine C.out.mono ?_
  rintro e w1 ⟨rfl, hY, hR⟩
  have HY := hide hY
  have HR := hide hR
  have hsz := hR.size
  clear hY hR C
  go_wp2_with (first | (at_make; refine wpList_make_own _ rfl _ _ 68 rfl w.heap.size 9 i0 _ 1 Tryd.underlying68 hi hz0 hz1 .i64 .i64 _ n rfl rfl rfl (by rw [hz2]; omega) (by unfold maxLen; omega) hsz ?_; intro w2 hown2 hgrow2))
  have HY2 := hide (HY.out.grown hgrow2 (by simp))
  have HR2 := hide (HR.out.grown hgrow2 (by simp))
  have HO2 := hide hown2
  clear hown2 hgrow2 HY HR
  go_wp2
  go_loopw [4, 10] (fun o i wr => ∃ k : Nat, k ≤ n ∧ i = .int .i64 k ∧ o = .slice (some ⟨w1.heap.size, 0, none⟩) k n ∧ wr.ownsRow w.heap.size 9 1 (.slice (some ⟨w1.heap.size, 0, none⟩) k n) k (Strs (seqTo (fun s => textR s.1 16 s.2) p1 k).1) ∧
      YR wr yb yo (seqTo (fun s => textR s.1 16 s.2) p1 k).2.1 (seqTo (fun s => textR s.1 16 s.2) p1 k).2.2 ∧ Rd w wr yb yo) (fun _ i _ => n - (intOf i).toNat)
  case atStart => exact ⟨0, Nat.zero_le _, rfl, rfl, HO2.out, HY2.out, HR2.out⟩
  case round =>
    obtain ⟨k, hk, rfl, rfl, hO, hY, hR⟩ := hrel
    have HO := hide hO
    have HR := hide hR
    by_cases hlt : k < n
    · have hS := seqTo_inv (fun s => textR s.1 16 s.2) (Short 140737488355328) (fun _ h => short_text h 16) p1 HSh.out k
      have hsz1 := hR.size
      have C1 := hide (text_is yb yo (seqTo (fun s => textR s.1 16 s.2) p1 k).2.2 (seqTo (fun s => textR s.1 16 s.2) p1 k).2.1 16 wr hY hS.1)
      have hxs := Nat.le_trans (textR_len (seqTo (fun s => textR s.1 16 s.2) p1 k).2.1 16 (seqTo (fun s => textR s.1 16 s.2) p1 k).2.2) hS.1
      have HX : Hid ((seqTo (fun s => textR s.1 16 s.2) p1 (k + 1)).1 = (seqTo (fun s => textR s.1 16 s.2) p1 k).1 ++ [(textR (seqTo (fun s => textR s.1 16 s.2) p1 k).2.1 16 (seqTo (fun s => textR s.1 16 s.2) p1 k).2.2).1]) := rfl
      have HX2 : Hid ((seqTo (fun s => textR s.1 16 s.2) p1 (k + 1)).2 = (textR (seqTo (fun s => textR s.1 16 s.2) p1 k).2.1 16 (seqTo (fun s => textR s.1 16 s.2) p1 k).2.2).2) := rfl
      generalize (seqTo (fun s => textR s.1 16 s.2) p1 k).2 = q at *
      generalize (seqTo (fun s => textR s.1 16 s.2) p1 k).1 = done at *
      generalize textR q.1 16 q.2 = a1 at *
      obtain ⟨x1, q1⟩ := a1
      simp only at C1 HX HX2 hxs
      clear hO hY hR hS HY2 HR2 HO2
      go_wp2_with fail
      refine C1.out.mono ?_
      rintro e w3 ⟨rfl, hY3, hR3⟩
      have HO3 := hide (own_rd HO.out hR3 hyw)
      have HR3 := hide (HR.out.trans hR3)
      have HY3 := hide hY3
      have C2 := hide (clone_any x1 w3 hxs)
      clear hY3 hR3 C1 HO HR
      go_wp2_with fail
      refine C2.out.mono ?_
      rintro e w4 ⟨rfl, hb4⟩
      have HO4 := hide (own_kept HO3.out fun k hk => hb4.block k (World.ownsRow.lt HO3.out k hk).2)
      have HR4 := hide (HR3.out.below hb4)
      have HY4 := hide (HY3.out.kept (hb4.block yb HY3.out.lt))
      have hsz4 := HR4.out.size
      clear hb4 C2 HO3 HR3 HY3
      go_wp2_with (first | (at_builtin; refine wpList_append_own_spare _ rfl (.tmp 12) (.tmp 16) 68 rfl w.heap.size 9 i0 1 Tryd.underlying68 hi hz1 w1.heap.size k n _ rfl (own_alloc HO4.out _) ⟨w4.heap.size, 0, none⟩ 1 1 [.string x1] rfl rfl (cells_new _ _ _) (one_one rfl) (by omega) ?_))
      intro w5 hown5 hgrow5
      have hylt : some yb ≠ some w1.heap.size := fun e => by have := Option.some.inj e; omega
      have HO5 : Hid (w5.ownsRow w.heap.size 9 1 (.slice (some ⟨w1.heap.size, 0, none⟩) (k + 1) n) (k + 1) (Strs (seqTo (fun s => textR s.1 16 s.2) p1 (k + 1)).1)) := by
        rw [HX.out, Strs, List.map_append]; exact hown5
      have HY5 : Hid (YR w5 yb yo (seqTo (fun s => textR s.1 16 s.2) p1 (k + 1)).2.1 (seqTo (fun s => textR s.1 16 s.2) p1 (k + 1)).2.2) := by
        rw [HX2.out]; exact (HY4.out.alloc _).grown hgrow5 hylt
      have HR5 := hide ((HR4.out.alloc (.cells #[.string x1] 9)).grown hgrow5 (fun b e => by have := Option.some.inj e; omega))
      clear hown5 hgrow5 HO4 HY4 HR4 HX HX2
      go_wp2
      go_roundw
      case rel => exact ⟨k + 1, by omega, by go_num, rfl, HO5.out, HY5.out, HR5.out⟩
      case measure => simp [intOf]; omega
    · have hke : k = n := by omega
      subst hke
      have HY := hide hY
      clear hO hY hR
      go_wp2
      go_ret
      rw [HE.out]
      exact ⟨_, rfl, by rw [seqTo_length]; exact HO.out, HY.out, HR.out⟩
end Go.Proofs.YtcidgfdiacehmaaDoor

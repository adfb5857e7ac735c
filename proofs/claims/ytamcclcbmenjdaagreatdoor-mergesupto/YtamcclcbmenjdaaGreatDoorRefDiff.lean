/- The reference's row of bits: difference. -/
import Derived.Test.YtamcclcbmenjdaaGreatDoorMergesuptoG15
namespace Go.Proofs.YtamcclcbmenjdaaGreatDoor
open Go.RowKit Go.Lib

theorem dR_of {s : ByteArray} {pos st k p q : Nat} (h : oR s 4 pos st = (k, p, q)) : dR s pos st = (sub64 (bR s p q (stepWidth k)).1 (stepShift k), (bR s p q (stepWidth k)).2) := by unfold dR; rw [h]
theorem oR_zero {s : ByteArray} {k p q : Nat} (h : (bR s p q 1).1 = 0) : oR s (k + 1) p q = (0, (bR s p q 1).2) := by rw [oR, if_pos h]
theorem oR_succ {s : ByteArray} {k p q : Nat} (h : (bR s p q 1).1 ≠ 0) : oR s (k + 1) p q = ((oR s k (bR s p q 1).2.1 (bR s p q 1).2.2).1 + 1, (oR s k (bR s p q 1).2.1 (bR s p q 1).2.2).2) := by rw [oR, if_neg h]
theorem bR_none {s : ByteArray} {p q : Nat} (h : p ≤ 8 * s.size) : bR s p q 0 = (0, p, q) := bR_long (by omega)
theorem oR_pos (s : ByteArray) : ∀ (k p q : Nat), p ≤ 8 * s.size → (oR s k p q).2.1 ≤ 8 * s.size
  | 0, _, _, h => h
  | k + 1, p, q, h => by
    by_cases hb : (bR s p q 1).1 = 0
    · rw [oR_zero hb]; exact bR_pos s p q 1
    · rw [oR_succ hb]; exact oR_pos s k _ _ (bR_pos s p q 1)
theorem dR_pos (s : ByteArray) (pos st : Nat) : (dR s pos st).2.1 ≤ 8 * s.size := by unfold dR; simp only; exact bR_pos s _ _ _
theorem dR_le (s : ByteArray) (pos st : Nat) : (dR s pos st).1 ≤ 18446744073709551615 := by unfold dR; simp only; exact sub64_le _ _
theorem oR_st (s : ByteArray) : ∀ (k p q : Nat), q ≤ 1 → (oR s k p q).2.2 ≤ 1
  | 0, _, _, h => h
  | k + 1, p, q, h => by
    by_cases hb : (bR s p q 1).1 = 0
    · rw [oR_zero hb]; exact bR_st s p q 1 h
    · rw [oR_succ hb]; exact oR_st s k _ _ (bR_st s p q 1 h)
theorem dR_st (s : ByteArray) (pos st : Nat) (h : st ≤ 1) : (dR s pos st).2.2 ≤ 1 := by unfold dR; simp only; exact bR_st s _ _ _ (oR_st s 4 pos st h)

theorem sub64_zero {x : Nat} (h : x < 2 ^ 64) : sub64 x 0 = x := by unfold sub64; omega
theorem dR_0 {s : ByteArray} {pos st p q : Nat} (h : oR s 4 pos st = (0, p, q)) (hp : p ≤ 8 * s.size) : dR s pos st = (0, p, q) := by
  rw [dR_of h, show stepWidth 0 = 0 from rfl, show stepShift 0 = 0 from rfl, sub64_zero (by rw [bR_none hp]; exact Nat.two_pow_pos 64), bR_none hp]
theorem dR_1 {s : ByteArray} {pos st p q : Nat} (h : oR s 4 pos st = (1, p, q)) : dR s pos st = (sub64 (bR s p q 7).1 63, (bR s p q 7).2) := by
  rw [dR_of h, show stepWidth 1 = 7 from rfl, show stepShift 1 = 63 from rfl]
theorem dR_2 {s : ByteArray} {pos st p q : Nat} (h : oR s 4 pos st = (2, p, q)) : dR s pos st = (sub64 (bR s p q 9).1 255, (bR s p q 9).2) := by
  rw [dR_of h, show stepWidth 2 = 9 from rfl, show stepShift 2 = 255 from rfl]
theorem dR_3 {s : ByteArray} {pos st p q : Nat} (h : oR s 4 pos st = (3, p, q)) : dR s pos st = (sub64 (bR s p q 12).1 2047, (bR s p q 12).2) := by
  rw [dR_of h, show stepWidth 3 = 12 from rfl, show stepShift 3 = 2047 from rfl]
theorem dR_4 {s : ByteArray} {pos st p q : Nat} (h : oR s 4 pos st = (4, p, q)) : dR s pos st = bR s p q 64 := by
  rw [dR_of h, show stepWidth 4 = 64 from rfl, show stepShift 4 = 0 from rfl, sub64_zero (bR_lt s p q 64)]
theorem oR_next {s : ByteArray} {o : Nat × Nat × Nat} {k j p q : Nat} (hv : o = (k + (oR s (j + 1) p q).1, (oR s (j + 1) p q).2)) (hb : (bR s p q 1).1 ≠ 0) : o = (k + 1 + (oR s j (bR s p q 1).2.1 (bR s p q 1).2.2).1, (oR s j (bR s p q 1).2.1 (bR s p q 1).2.2).2) := by
  rw [hv, oR_succ hb]
  generalize oR s j (bR s p q 1).2.1 (bR s p q 1).2.2 = r
  simp only
  rw [Nat.add_assoc, Nat.add_comm 1]
theorem oR_stop {s : ByteArray} {o : Nat × Nat × Nat} {k j p q : Nat} (hv : o = (k + (oR s (j + 1) p q).1, (oR s (j + 1) p q).2)) (hb : (bR s p q 1).1 = 0) : o = (k, (bR s p q 1).2.1, (bR s p q 1).2.2) := by
  rw [hv, oR_zero hb]; rfl

set_option maxRecDepth 100000 in
set_option maxHeartbeats 1000000 in
theorem diff_any (w : World) (rb : Nat) (S : ByteArray) (pos st : Nat) (h : Rw w rb S pos st) (hp : pos ≤ 8 * S.size) (hS : S.size ≤ 140737488355328) :
    Calls Tryz.prog 143 #[.pointer (some ⟨rb, 0, none⟩)] w fun e w' => e = .returned (.int .u64 (dR S pos st).1) ∧ Rw w' rb S (dR S pos st).2.1 (dR S pos st).2.2 ∧ Only w w' rb := by
  have H := hide h
  have HZ : Hid (oR S 4 pos st = (0 + (oR S (4 - 0) pos st).1, (oR S (4 - 0) pos st).2)) := by rw [Nat.sub_zero, Nat.zero_add]; exact rfl
  clear h
  go_enter Tryz.func143, Tryz.ntmps143
  go_wp2
  go_loopw [3, 4] (fun i _ wr => ∃ k p q : Nat, k ≤ 4 ∧ i = .int .i64 k ∧ p ≤ 8 * S.size ∧ Hid (Rw wr rb S p q) ∧ Hid (Only w wr rb) ∧ Hid (oR S 4 pos st = (k + (oR S (4 - k) p q).1, (oR S (4 - k) p q).2))) (fun i _ _ => 4 - (intOf i).toNat)
  case atStart => exact ⟨0, pos, st, Nat.zero_le _, rfl, hp, H.out, Only.refl w rb, HZ.out⟩
  case round =>
    obtain ⟨k, p, q, hk, rfl, hpp, HR, HO, HV⟩ := hrel
    by_cases hlt : k < 4
    · obtain ⟨j, hj⟩ : ∃ j, 4 - k = j + 1 := ⟨4 - k - 1, by omega⟩
      have hv := HV.out
      rw [hj] at hv
      have C1 := hide (bits_any wr rb S p q 1 HR.out hpp hS (by omega))
      have hlb := bR_lt S p q 1
      have hlp := bR_pos S p q 1
      clear HV
      by_cases hb : (bR S p q 1).1 = 0
      · have HE : Hid (oR S 4 pos st = (k, (bR S p q 1).2.1, (bR S p q 1).2.2)) := oR_stop hv hb
        have HB := hide hb
        clear hv hj hb
        go_wp2_with fail
        refine C1.out.mono ?_
        rintro e w1 ⟨rfl, hr1, ho1⟩
        have HR1 := hide hr1
        have HO1 := hide (HO.out.trans ho1)
        rw [HB.out]
        clear hr1 ho1 C1 HB HR HO hlb
        generalize (bR S p q 1).2.1 = p1 at *
        generalize (bR S p q 1).2.2 = q1 at *
        rcases (by omega : k = 0 ∨ k = 1 ∨ k = 2 ∨ k = 3) with rfl | rfl | rfl | rfl
        · have HD : Hid (dR S pos st = (0, p1, q1)) := dR_0 HE.out hlp
          clear HE
          go_wp2
          go_ret
          rw [HD.out]
          exact ⟨rfl, HR1.out, HO1.out⟩
        · have HD : Hid (dR S pos st = (sub64 (bR S p1 q1 7).1 63, (bR S p1 q1 7).2)) := dR_1 HE.out
          have C2 := hide (bits_any w1 rb S p1 q1 7 HR1.out hlp hS (by omega))
          have HW := hide (wrap_sub64 (bR S p1 q1 7).1 63 (by omega))
          clear HE
          go_wp2_with fail
          refine C2.out.mono ?_
          rintro e w2 ⟨rfl, hr2, ho2⟩
          have HR2 := hide hr2
          have HO2 := hide (HO1.out.trans ho2)
          clear hr2 ho2 C2 HR1 HO1
          go_wp2
          go_ret
          rw [HD.out]
          exact ⟨ret_int HW.out, HR2.out, HO2.out⟩
        · have HD : Hid (dR S pos st = (sub64 (bR S p1 q1 9).1 255, (bR S p1 q1 9).2)) := dR_2 HE.out
          have C2 := hide (bits_any w1 rb S p1 q1 9 HR1.out hlp hS (by omega))
          have HW := hide (wrap_sub64 (bR S p1 q1 9).1 255 (by omega))
          clear HE
          go_wp2_with fail
          refine C2.out.mono ?_
          rintro e w2 ⟨rfl, hr2, ho2⟩
          have HR2 := hide hr2
          have HO2 := hide (HO1.out.trans ho2)
          clear hr2 ho2 C2 HR1 HO1
          go_wp2
          go_ret
          rw [HD.out]
          exact ⟨ret_int HW.out, HR2.out, HO2.out⟩
        · have HD : Hid (dR S pos st = (sub64 (bR S p1 q1 12).1 2047, (bR S p1 q1 12).2)) := dR_3 HE.out
          have C2 := hide (bits_any w1 rb S p1 q1 12 HR1.out hlp hS (by omega))
          have HW := hide (wrap_sub64 (bR S p1 q1 12).1 2047 (by omega))
          clear HE
          go_wp2_with fail
          refine C2.out.mono ?_
          rintro e w2 ⟨rfl, hr2, ho2⟩
          have HR2 := hide hr2
          have HO2 := hide (HO1.out.trans ho2)
          clear hr2 ho2 C2 HR1 HO1
          go_wp2
          go_ret
          rw [HD.out]
          exact ⟨ret_int HW.out, HR2.out, HO2.out⟩
      · have HE : Hid (oR S 4 pos st = (k + 1 + (oR S (4 - (k + 1)) (bR S p q 1).2.1 (bR S p q 1).2.2).1, (oR S (4 - (k + 1)) (bR S p q 1).2.1 (bR S p q 1).2.2).2)) := by
          rw [show 4 - (k + 1) = j by omega]; exact oR_next hv hb
        clear hv hj
        obtain ⟨x, hx⟩ : ∃ x, x = (bR S p q 1).1 := ⟨_, rfl⟩
        have HX := hide hx
        rw [← hx] at hb
        clear hx
        go_wp2_with fail
        refine C1.out.mono ?_
        rintro e w1 ⟨rfl, hr1, ho1⟩
        have HR1 := hide hr1
        have HO1 := hide (HO.out.trans ho1)
        rw [← HX.out]
        clear hr1 ho1 C1 HX HR HO hlb
        go_wp2
        go_roundw
        case rel => exact ⟨k + 1, _, _, by omega, by go_num, hlp, HR1.out, HO1.out, HE.out⟩
        case measure => simp [intOf]; omega
    · obtain rfl : k = 4 := by omega
      have HD : Hid (dR S pos st = bR S p q 64) := dR_4 HV.out
      have C2 := hide (bits_any wr rb S p q 64 HR.out hpp hS (by omega))
      clear HV
      go_wp2_with fail
      refine C2.out.mono ?_
      rintro e w2 ⟨rfl, hr2, ho2⟩
      have HR2 := hide hr2
      have HO2 := hide (HO.out.trans ho2)
      clear hr2 ho2 C2 HR HO
      go_wp2
      go_ret
      rw [HD.out]
      exact ⟨rfl, HR2.out, HO2.out⟩
end Go.Proofs.YtamcclcbmenjdaaGreatDoor

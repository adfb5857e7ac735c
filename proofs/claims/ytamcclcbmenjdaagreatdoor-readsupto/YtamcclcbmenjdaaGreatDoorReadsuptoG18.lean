/- 'choirlaw.Reads', for any list of texts of bulk at most 1048576: Decode answers the document's batch or error, one behind the other; lists that came out are their owner's own. The second form's statement and its card: its only condition is the row's own bound on the argument's bulk. -/
import Derived.Test.YtamcclcbmenjdaaGreatDoorReadsuptoG17
/- The reference's row of bits: bits. -/
namespace Go.Proofs.YtamcclcbmenjdaaGreatDoor
open Go.RowKit Go.Lib

/-- The row's struct in block rb. -/
def Rw (w : World) (rb : Nat) (S : ByteArray) (pos st : Nat) : Prop := Blk w rb 201 [.string S, .int .i64 pos, .bool (decide (st = 1))]
theorem Rw.turn {w : World} {rb pos st : Nat} {S : ByteArray} (h : Rw w rb S pos st) : Rw (w.setCell ⟨rb, 2, none⟩ (.bool true)) rb S pos 1 := Blk.set h 2 (.bool true)
theorem Rw.move {w : World} {rb pos st : Nat} {S : ByteArray} (h : Rw w rb S pos st) (p : Nat) : Rw (w.setCell ⟨rb, 1, none⟩ (.int .i64 p)) rb S p st := Blk.set h 1 (.int .i64 p)
theorem Only.set (w : World) (rb i : Nat) (v : Value) : Only w (w.setCell ⟨rb, i, none⟩ v) rb := ⟨rfl, rfl, rfl, by simp, fun k _ hne => Below.heap_setCell w ⟨rb, i, none⟩ v k (fun e => hne (by rw [e]))⟩
theorem Only.drewN {w w1 : World} {rb : Nat} (h : Only w w1 rb) (q : Nat) : Only w (w1.drewN q) rb := ⟨h.os, h.tape, h.output, h.size, h.block⟩
theorem bR_short {s : ByteArray} {pos st n : Nat} (h : 8 * s.size < pos + n) : bR s pos st n = (0, 8 * s.size, 1) := if_pos h
theorem bR_long {s : ByteArray} {pos st n : Nat} (h : pos + n ≤ 8 * s.size) : bR s pos st n = (valTo s.data.toList pos n, pos + n, st) := if_neg (by omega)
theorem bR_lt (s : ByteArray) (pos st n : Nat) : (bR s pos st n).1 < 2 ^ n := by
  unfold bR
  split
  · exact Nat.two_pow_pos n
  · exact valTo_lt _ _ _
theorem bR_pos (s : ByteArray) (pos st n : Nat) : (bR s pos st n).2.1 ≤ 8 * s.size := by
  unfold bR
  split
  · exact Nat.le_refl _
  · simp only; omega
theorem bR_st (s : ByteArray) (pos st n : Nat) (h : st ≤ 1) : (bR s pos st n).2.2 ≤ 1 := by
  unfold bR
  split
  · exact Nat.le_refl _
  · exact h
theorem rbit (S : ByteArray) (m : Nat) (h : m / 8 < S.size) : (wrap64 (S[m / 8].toNat : Int) / 2 ^ (7 - m % 8)).tmod 2 = ((bitAt S.data.toList m : Nat) : Int) := by
  have e : S.data.toList.getD (m / 8) 0 = S[m / 8] := by
    rw [List.getD_eq_getElem?_getD, List.getElem?_eq_getElem (by simpa using h)]; rfl
  have hl := S[m / 8].toNat_lt
  unfold bitAt
  rw [e]
  generalize S[m / 8].toNat = B at *
  have h1 : wrap64 (B : Int) = (B : Int) := by unfold wrap64; omega
  rw [h1]
  have h2 : ((B : Int) / 2 ^ (7 - m % 8)) = ((B / 2 ^ (7 - m % 8) : Nat) : Int) := by simp
  rw [h2, Int.tmod_eq_emod_of_nonneg (Int.natCast_nonneg _)]
  generalize B / 2 ^ (7 - m % 8) = Y
  omega

set_option maxRecDepth 100000 in
set_option maxHeartbeats 1000000 in
theorem bits_any (w : World) (rb : Nat) (S : ByteArray) (pos st n : Nat) (h : Rw w rb S pos st) (hp : pos ≤ 8 * S.size) (hS : S.size ≤ 140737488355328) (hn : n ≤ 64) :
    Calls Tryz.prog 142 #[.pointer (some ⟨rb, 0, none⟩), .int .i64 n] w fun e w' => e = .returned (.int .u64 (bR S pos st n).1) ∧ Rw w' rb S (bR S pos st n).2.1 (bR S pos st n).2.2 ∧ Only w w' rb := by
  have H := hide h
  clear h
  go_enter Tryz.func142, Tryz.ntmps142
  go_wp2
  go_loopw [5, 6, 7] (fun v i _ wr => ∃ k : Nat, k ≤ n ∧ i = .int .i64 k ∧ v = .int .u64 (valTo S.data.toList pos k) ∧ pos + k ≤ 8 * S.size ∧ Hid (Rw wr rb S (pos + k) st) ∧ Hid (Only w wr rb)) (fun _ i _ _ => n - (intOf i).toNat)
  case atStart => exact ⟨0, Nat.zero_le _, rfl, rfl, by omega, by exact H.out, Only.refl w rb⟩
  case round =>
    obtain ⟨k, hk, rfl, rfl, hpk, HR, HO⟩ := hrel
    obtain ⟨m, hm⟩ : ∃ m, m = pos + k := ⟨_, rfl⟩
    rw [← hm] at HR hpk
    have c0 := HR.out.cell (i := 0) rfl
    have c1 := HR.out.cell (i := 1) rfl
    have c2 := HR.out.cell (i := 2) rfl
    have f1 := HR.out.frozen 1
    have f2 := HR.out.frozen 2
    have hb1 : IntKind.i64.wrap ((8 : Int) * S.size) = 8 * S.size := by rw [IntKind.wrap_i64]; omega
    by_cases hlt : k < n
    · by_cases hq : m < 8 * S.size
      · have hq8 : m / 8 < S.size := by omega
        have hq9 : (m : Int) / 8 < (S.size : Int) := by omega
        have hq7 : ¬ (8 : Int) * S.size ≤ m := by omega
        have hqd : decide ((8 : Int) * S.size ≤ m) = false := decide_eq_false hq7
        have hm1 : m ≤ 1125899906842624 := by omega
        have hw8 : IntKind.i64.wrap ((m : Int) / 8) = (m : Int) / 8 := by rw [IntKind.wrap_i64]; omega
        have h08 : 0 ≤ (m : Int) / 8 := by omega
        have htn : ((m : Int) / 8).toNat = m / 8 := by omega
        have HM := hide hm
        clear hm
        go_wp2
        go_quiet (fail)
        go_wp2
        go_quiet (fail)
        rw [rbit S m hq8]
        have hβ : bitAt S.data.toList m ≤ 1 := by have : bitAt S.data.toList m < 2 := Nat.mod_lt _ (by decide); omega
        have hV : valTo S.data.toList pos k < 9223372036854775808 := Nat.lt_of_lt_of_le (valTo_lt _ _ k) (Nat.pow_le_pow_right (by decide) (by omega : k ≤ 63))
        have HNx : Hid (valTo S.data.toList pos (k + 1) = 2 * valTo S.data.toList pos k + bitAt S.data.toList m) := by show _ = _; rw [valTo, HM.out]
        clear hqd hb1
        have hsl : m / 8 < S.size := hq8
        generalize bitAt S.data.toList m = β at *
        generalize valTo S.data.toList pos k = V at *
        have HB2 : Hid (∀ q, Rw ((wr.drewN q).setCell ⟨rb, 1, none⟩ (.int .i64 ((m : Int) + 1))) rb S (pos + (k + 1)) st ∧ Only w ((wr.drewN q).setCell ⟨rb, 1, none⟩ (.int .i64 ((m : Int) + 1))) rb) := fun q => by
          have e : m + 1 = pos + (k + 1) := by rw [HM.out]; omega
          rw [← e]
          have e2 : ((m + 1 : Nat) : Int) = (m : Int) + 1 := by omega
          rw [← e2]
          exact ⟨Rw.move (Blk.drewN HR.out q) (m + 1), (HO.out.drewN q).trans (Only.set _ rb 1 _)⟩
        have hpk2 : pos + (k + 1) ≤ 8 * S.size := by have := HM.out; omega
        clear HR HO HM
        go_wp2
        go_roundw
        case rel => exact ⟨k + 1, by omega, by go_num, vint (by rw [HNx.out]; simp), hpk2, (HB2.out _).1, (HB2.out _).2⟩
        case measure => simp [intOf]; omega
      · have hq7 : (8 : Int) * S.size ≤ m := by omega
        have hqd : decide ((8 : Int) * S.size ≤ m) = true := decide_eq_true hq7
        have HE : Hid (bR S pos st n = (0, 8 * S.size, 1)) := bR_short (by omega)
        have HX : Hid (∀ q, Rw ((wr.drewN q).setCell ⟨rb, 2, none⟩ (.bool true)) rb S (8 * S.size) 1 ∧ Only w ((wr.drewN q).setCell ⟨rb, 2, none⟩ (.bool true)) rb) := fun q => by
          have e : m = 8 * S.size := by omega
          rw [← e]
          exact ⟨Rw.turn (Blk.drewN HR.out q), (HO.out.drewN q).trans (Only.set _ rb 2 _)⟩
        clear hm HR HO
        go_wp2
        go_quiet (fail)
        go_wp2
        go_ret
        rw [HE.out]
        exact ⟨rfl, HX.out _⟩
    · have hke : k = n := by omega
      have HE : Hid (bR S pos st n = (valTo S.data.toList pos k, m, st)) := by rw [hm, hke]; exact bR_long (by omega)
      clear hm hke
      go_wp2
      go_ret
      rw [HE.out]
      exact ⟨rfl, HR.out, HO.out⟩
end Go.Proofs.YtamcclcbmenjdaaGreatDoor

/- The reference's row of bits: difference. -/
namespace Go.Proofs.YtamcclcbmenjdaaGreatDoor
open Go.RowKit Go.Lib

theorem dR_of {s : ByteArray} {pos st k p q : Nat} (h : oR s 4 pos st = (k, p, q)) : dR s pos st = (sub64 (bR s p q (stepWidth k)).1 (stepShift k), (bR s p q (stepWidth k)).2) := by unfold dR; rw [h]
theorem oR_zero {s : ByteArray} {k p q : Nat} (h : (bR s p q 1).1 = 0) : oR s (k + 1) p q = (0, (bR s p q 1).2) := by rw [oR, if_pos h]
theorem oR_succ {s : ByteArray} {k p q : Nat} (h : (bR s p q 1).1 ≠ 0) : oR s (k + 1) p q = ((oR s k (bR s p q 1).2.1 (bR s p q 1).2.2).1 + 1, (oR s k (bR s p q 1).2.1 (bR s p q 1).2.2).2) := by rw [oR, if_neg h]
theorem bR_none {s : ByteArray} {p q : Nat} (h : p ≤ 8 * s.size) : bR s p q 0 = (0, p, q) := bR_long (by omega)
theorem oR_pos (s : ByteArray) : ∀ (k p q : Nat), p ≤ 8 * s.size → (oR s k p q).2.1 ≤ 8 * s.size
  | 0, _, _, h => h
  | k + 1, p, q, h => by
    by_cases hb : (bR s p q 1).1 = 0
    · rw [oR_zero hb]; exact bR_pos s p q 1
    · rw [oR_succ hb]; exact oR_pos s k _ _ (bR_pos s p q 1)
theorem dR_pos (s : ByteArray) (pos st : Nat) : (dR s pos st).2.1 ≤ 8 * s.size := by unfold dR; simp only; exact bR_pos s _ _ _
theorem dR_le (s : ByteArray) (pos st : Nat) : (dR s pos st).1 ≤ 18446744073709551615 := by unfold dR; simp only; exact sub64_le _ _
theorem oR_st (s : ByteArray) : ∀ (k p q : Nat), q ≤ 1 → (oR s k p q).2.2 ≤ 1
  | 0, _, _, h => h
  | k + 1, p, q, h => by
    by_cases hb : (bR s p q 1).1 = 0
    · rw [oR_zero hb]; exact bR_st s p q 1 h
    · rw [oR_succ hb]; exact oR_st s k _ _ (bR_st s p q 1 h)
theorem dR_st (s : ByteArray) (pos st : Nat) (h : st ≤ 1) : (dR s pos st).2.2 ≤ 1 := by unfold dR; simp only; exact bR_st s _ _ _ (oR_st s 4 pos st h)

theorem sub64_zero {x : Nat} (h : x < 2 ^ 64) : sub64 x 0 = x := by unfold sub64; omega
theorem dR_0 {s : ByteArray} {pos st p q : Nat} (h : oR s 4 pos st = (0, p, q)) (hp : p ≤ 8 * s.size) : dR s pos st = (0, p, q) := by
  rw [dR_of h, show stepWidth 0 = 0 from rfl, show stepShift 0 = 0 from rfl, sub64_zero (by rw [bR_none hp]; exact Nat.two_pow_pos 64), bR_none hp]
theorem dR_1 {s : ByteArray} {pos st p q : Nat} (h : oR s 4 pos st = (1, p, q)) : dR s pos st = (sub64 (bR s p q 7).1 63, (bR s p q 7).2) := by
  rw [dR_of h, show stepWidth 1 = 7 from rfl, show stepShift 1 = 63 from rfl]
theorem dR_2 {s : ByteArray} {pos st p q : Nat} (h : oR s 4 pos st = (2, p, q)) : dR s pos st = (sub64 (bR s p q 9).1 255, (bR s p q 9).2) := by
  rw [dR_of h, show stepWidth 2 = 9 from rfl, show stepShift 2 = 255 from rfl]
theorem dR_3 {s : ByteArray} {pos st p q : Nat} (h : oR s 4 pos st = (3, p, q)) : dR s pos st = (sub64 (bR s p q 12).1 2047, (bR s p q 12).2) := by
  rw [dR_of h, show stepWidth 3 = 12 from rfl, show stepShift 3 = 2047 from rfl]
theorem dR_4 {s : ByteArray} {pos st p q : Nat} (h : oR s 4 pos st = (4, p, q)) : dR s pos st = bR s p q 64 := by
  rw [dR_of h, show stepWidth 4 = 64 from rfl, show stepShift 4 = 0 from rfl, sub64_zero (bR_lt s p q 64)]
theorem oR_next {s : ByteArray} {o : Nat × Nat × Nat} {k j p q : Nat} (hv : o = (k + (oR s (j + 1) p q).1, (oR s (j + 1) p q).2)) (hb : (bR s p q 1).1 ≠ 0) : o = (k + 1 + (oR s j (bR s p q 1).2.1 (bR s p q 1).2.2).1, (oR s j (bR s p q 1).2.1 (bR s p q 1).2.2).2) := by
  rw [hv, oR_succ hb]
  generalize oR s j (bR s p q 1).2.1 (bR s p q 1).2.2 = r
  simp only
  rw [Nat.add_assoc, Nat.add_comm 1]
theorem oR_stop {s : ByteArray} {o : Nat × Nat × Nat} {k j p q : Nat} (hv : o = (k + (oR s (j + 1) p q).1, (oR s (j + 1) p q).2)) (hb : (bR s p q 1).1 = 0) : o = (k, (bR s p q 1).2.1, (bR s p q 1).2.2) := by
  rw [hv, oR_zero hb]; rfl

set_option maxRecDepth 100000 in
set_option maxHeartbeats 1000000 in
theorem diff_any (w : World) (rb : Nat) (S : ByteArray) (pos st : Nat) (h : Rw w rb S pos st) (hp : pos ≤ 8 * S.size) (hS : S.size ≤ 140737488355328) :
    Calls Tryz.prog 143 #[.pointer (some ⟨rb, 0, none⟩)] w fun e w' => e = .returned (.int .u64 (dR S pos st).1) ∧ Rw w' rb S (dR S pos st).2.1 (dR S pos st).2.2 ∧ Only w w' rb := by
  have H := hide h
  have HZ : Hid (oR S 4 pos st = (0 + (oR S (4 - 0) pos st).1, (oR S (4 - 0) pos st).2)) := by rw [Nat.sub_zero, Nat.zero_add]; exact rfl
  clear h
  go_enter Tryz.func143, Tryz.ntmps143
  go_wp2
  go_loopw [3, 4] (fun i _ wr => ∃ k p q : Nat, k ≤ 4 ∧ i = .int .i64 k ∧ p ≤ 8 * S.size ∧ Hid (Rw wr rb S p q) ∧ Hid (Only w wr rb) ∧ Hid (oR S 4 pos st = (k + (oR S (4 - k) p q).1, (oR S (4 - k) p q).2))) (fun i _ _ => 4 - (intOf i).toNat)
  case atStart => exact ⟨0, pos, st, Nat.zero_le _, rfl, hp, H.out, Only.refl w rb, HZ.out⟩
  case round =>
    obtain ⟨k, p, q, hk, rfl, hpp, HR, HO, HV⟩ := hrel
    by_cases hlt : k < 4
    · obtain ⟨j, hj⟩ : ∃ j, 4 - k = j + 1 := ⟨4 - k - 1, by omega⟩
      have hv := HV.out
      rw [hj] at hv
      have C1 := hide (bits_any wr rb S p q 1 HR.out hpp hS (by omega))
      have hlb := bR_lt S p q 1
      have hlp := bR_pos S p q 1
      clear HV
      by_cases hb : (bR S p q 1).1 = 0
      · have HE : Hid (oR S 4 pos st = (k, (bR S p q 1).2.1, (bR S p q 1).2.2)) := oR_stop hv hb
        have HB := hide hb
        clear hv hj hb
        go_wp2_with fail
        refine C1.out.mono ?_
        rintro e w1 ⟨rfl, hr1, ho1⟩
        have HR1 := hide hr1
        have HO1 := hide (HO.out.trans ho1)
        rw [HB.out]
        clear hr1 ho1 C1 HB HR HO hlb
        generalize (bR S p q 1).2.1 = p1 at *
        generalize (bR S p q 1).2.2 = q1 at *
        rcases (by omega : k = 0 ∨ k = 1 ∨ k = 2 ∨ k = 3) with rfl | rfl | rfl | rfl
        · have HD : Hid (dR S pos st = (0, p1, q1)) := dR_0 HE.out hlp
          clear HE
          go_wp2
          go_ret
          rw [HD.out]
          exact ⟨rfl, HR1.out, HO1.out⟩
        · have HD : Hid (dR S pos st = (sub64 (bR S p1 q1 7).1 63, (bR S p1 q1 7).2)) := dR_1 HE.out
          have C2 := hide (bits_any w1 rb S p1 q1 7 HR1.out hlp hS (by omega))
          have HW := hide (wrap_sub64 (bR S p1 q1 7).1 63 (by omega))
          clear HE
          go_wp2_with fail
          refine C2.out.mono ?_
          rintro e w2 ⟨rfl, hr2, ho2⟩
          have HR2 := hide hr2
          have HO2 := hide (HO1.out.trans ho2)
          clear hr2 ho2 C2 HR1 HO1
          go_wp2
          go_ret
          rw [HD.out]
          exact ⟨ret_int HW.out, HR2.out, HO2.out⟩
        · have HD : Hid (dR S pos st = (sub64 (bR S p1 q1 9).1 255, (bR S p1 q1 9).2)) := dR_2 HE.out
          have C2 := hide (bits_any w1 rb S p1 q1 9 HR1.out hlp hS (by omega))
          have HW := hide (wrap_sub64 (bR S p1 q1 9).1 255 (by omega))
          clear HE
          go_wp2_with fail
          refine C2.out.mono ?_
          rintro e w2 ⟨rfl, hr2, ho2⟩
          have HR2 := hide hr2
          have HO2 := hide (HO1.out.trans ho2)
          clear hr2 ho2 C2 HR1 HO1
          go_wp2
          go_ret
          rw [HD.out]
          exact ⟨ret_int HW.out, HR2.out, HO2.out⟩
        · have HD : Hid (dR S pos st = (sub64 (bR S p1 q1 12).1 2047, (bR S p1 q1 12).2)) := dR_3 HE.out
          have C2 := hide (bits_any w1 rb S p1 q1 12 HR1.out hlp hS (by omega))
          have HW := hide (wrap_sub64 (bR S p1 q1 12).1 2047 (by omega))
          clear HE
          go_wp2_with fail
          refine C2.out.mono ?_
          rintro e w2 ⟨rfl, hr2, ho2⟩
          have HR2 := hide hr2
          have HO2 := hide (HO1.out.trans ho2)
          clear hr2 ho2 C2 HR1 HO1
          go_wp2
          go_ret
          rw [HD.out]
          exact ⟨ret_int HW.out, HR2.out, HO2.out⟩
      · have HE : Hid (oR S 4 pos st = (k + 1 + (oR S (4 - (k + 1)) (bR S p q 1).2.1 (bR S p q 1).2.2).1, (oR S (4 - (k + 1)) (bR S p q 1).2.1 (bR S p q 1).2.2).2)) := by
          rw [show 4 - (k + 1) = j by omega]; exact oR_next hv hb
        clear hv hj
        obtain ⟨x, hx⟩ : ∃ x, x = (bR S p q 1).1 := ⟨_, rfl⟩
        have HX := hide hx
        rw [← hx] at hb
        clear hx
        go_wp2_with fail
        refine C1.out.mono ?_
        rintro e w1 ⟨rfl, hr1, ho1⟩
        have HR1 := hide hr1
        have HO1 := hide (HO.out.trans ho1)
        rw [← HX.out]
        clear hr1 ho1 C1 HX HR HO hlb
        go_wp2
        go_roundw
        case rel => exact ⟨k + 1, _, _, by omega, by go_num, hlp, HR1.out, HO1.out, HE.out⟩
        case measure => simp [intOf]; omega
    · obtain rfl : k = 4 := by omega
      have HD : Hid (dR S pos st = bR S p q 64) := dR_4 HV.out
      have C2 := hide (bits_any wr rb S p q 64 HR.out hpp hS (by omega))
      clear HV
      go_wp2_with fail
      refine C2.out.mono ?_
      rintro e w2 ⟨rfl, hr2, ho2⟩
      have HR2 := hide hr2
      have HO2 := hide (HO.out.trans ho2)
      clear hr2 ho2 C2 HR HO
      go_wp2
      go_ret
      rw [HD.out]
      exact ⟨rfl, HR2.out, HO2.out⟩
end Go.Proofs.YtamcclcbmenjdaaGreatDoor

/- 'choirkeep.Level', for any list of steps (100 of them are done): when all are up, nothing is under way, and each has told each other one, all have the same, and compacted logs are the same bytes. The first form's statement and its card: no condition beside the row's own. -/
import Derived.Test.YtamcclcbmenjdaaGreatDoorLevelG10
import Derived.Test.YtamcclcbmenjdaaGreatDoorLevelG23
import Derived.Lib.ItoaNum
/- The reference: Bits, as texts of 0 and 1. -/
namespace Go.Proofs.YtamcclcbmenjdaaGreatDoor
open Go.RowKit Go.Lib

/-- Bits as a text. -/
def zd (b : Bool) : UInt8 := if b then 49 else 48
def zo (l : List Bool) : List UInt8 := l.map zd
def zoS (l : List Bool) : ByteArray := ⟨(zo l).toArray⟩
theorem zo_length (l : List Bool) : (zo l).length = l.length := by simp [zo]
theorem zoS_append (a b : List Bool) : zoS a ++ zoS b = zoS (a ++ b) := by
  unfold zoS
  rw [ByteArray.mk_append_mk]; simp [zo]
theorem zoS_size (l : List Bool) : (zoS l).size = l.length := by
  show (zo l).toArray.size = _
  simp [zo]

/-- Bytes in block g, free to be written. -/
structure RB (w : World) (g : Nat) (l : List UInt8) : Prop where
  cell : ∀ j, j < l.length → w.cell? ⟨g, j, none⟩ = some (.int .u8 ((l.getD j 0).toNat : Int))
  fr : ∀ j, j < l.length → w.frozen? ⟨g, j, none⟩ = false
theorem RB.set {w : World} {g : Nat} {l : List UInt8} (h : RB w g l) (i : Nat) (hi : i < l.length) (x : UInt8) : RB (w.setCell ⟨g, i, none⟩ (.int .u8 (x.toNat : Int))) g (l.set i x) := by
  refine ⟨fun j hj => ?_, fun j hj => ?_⟩
  · rw [List.length_set] at hj
    by_cases e : j = i
    · subst e
      rw [World.cell?_setCell_same _ _ _ (h.cell j hj), List.getD_eq_getElem?_getD, List.getElem?_set, if_pos rfl, if_pos hj]; rfl
    · rw [World.cell?_setCell_other _ _ _ _ (fun y => e (congrArg Addr.off y).symm), h.cell j hj, List.getD_eq_getElem?_getD, List.getD_eq_getElem?_getD, List.getElem?_set, if_neg (fun y => e y.symm)]
  · rw [List.length_set] at hj
    rw [World.frozen?_setCell]; exact h.fr j hj
theorem RB.drew {w : World} {g : Nat} {l : List UInt8} (h : RB w g l) : RB w.drew g l := ⟨h.cell, h.fr⟩

/-- What stands in Bits' row behind j digits. -/
def dig (n W j : Nat) : List UInt8 := List.replicate (W - j) 0 ++ zo (Pl.bitsOf n j)
theorem dig_length (n W j : Nat) (h : j ≤ W) : (dig n W j).length = W := by simp [dig, zo_length, Pl.bitsOf_length]; omega
theorem dig_succ (n W j : Nat) (h : j < W) : dig n W (j + 1) = (dig n W j).set (W - j - 1) (zd (n / 2 ^ j % 2 == 1)) := by
  obtain ⟨k, rfl⟩ : ∃ k, W = j + 1 + k := ⟨W - j - 1, by omega⟩
  unfold dig
  rw [show j + 1 + k - (j + 1) = k by omega, show j + 1 + k - j = k + 1 by omega, show k + 1 - 1 = k by omega, Pl.bitsOf, List.replicate_succ', List.append_assoc, List.set_append_right _ _ (by simp)]
  simp [zo]
theorem zd_bit (x : Nat) : ((zd (x % 2 == 1)).toNat : Int) = 48 + (x : Int) % 2 := by
  rcases Nat.mod_two_eq_zero_or_one x with h | h <;> simp [zd, h] <;> omega

set_option maxRecDepth 100000 in
set_option maxHeartbeats 400000 in
theorem refBits_any (n W : Nat) (w : World) (hn : n ≤ 18446744073709551615) (hW : W ≤ 64) :
    Calls Tryz.prog 77 #[.int .u64 n, .int .i64 W] w fun e w' => e = .returned (.string (zoS (Pl.bitsOf n W))) ∧ Below w.heap.size w w' := by
  obtain ⟨i0, hi, hz0, hz1, hz2⟩ := info_parts Tryz.infoU8
  obtain ⟨w0, hmk, HR0, HB0⟩ : ∃ w0, (Instr.makeSlice 83 (.int .i64 W) (.int .i64 W)).run Tryz.prog w = .ok (.slice (some ⟨w.heap.size, 0, none⟩) W W) w0 ∧ Hid (RB w0 w.heap.size (dig n W 0)) ∧ Hid (Below w.heap.size w w0) := by
    have h := run_makeSlice (P := Tryz.prog) w 83 5 i0 (.int .u8 0) Tryz.underlying83 hi hz0 .i64 .i64 W W (by omega) (by omega) (by rw [hz1]; omega) (by rw [hz2]; omega) (by omega)
    rw [Int.toNat_natCast, hz1, Nat.mul_one] at h
    have hcell : ∀ j, j < W → (madeCells (Value.int .u8 0).cells W)[j]? = some (.int .u8 0) := fun j hj => by
      have e := toList_madeCells_one (.int .u8 0) W
      have e2 : (madeCells (Value.int .u8 0).cells W).toList[j]? = some (.int .u8 0) := by
        show (madeCells #[Value.int .u8 0] W).toList[j]? = _
        rw [e, List.getElem?_replicate, if_pos hj]
      simpa using e2
    refine ⟨_, h, ?_, (Below.refl _ _).alloc (Nat.le_refl _) _⟩
    refine ⟨fun j hj => ?_, fun j hj => ?_⟩
    · rw [dig_length n W 0 (by omega)] at hj
      rw [World.cell?_alloc_new, hcell j hj]
      simp [dig, zo, Pl.bitsOf, List.getD_eq_getElem?_getD, hj]
    · exact World.frozen?_alloc_new _ _ _ _
  clear hz0 hz1 hz2 hi
  go_enter Tryz.func77, Tryz.ntmps77
  go_wp2
  go_loopw [0, 6] (fun m i wr => ∃ j : Nat, j ≤ W ∧ m = .int .u64 ((n / 2 ^ j : Nat) : Int) ∧ i = .int .i64 ((W : Int) - 1 - j) ∧ RB wr w.heap.size (dig n W j) ∧ Below w.heap.size w wr) (fun _ i _ => (intOf i + 1).toNat)
  case atStart => exact ⟨0, Nat.zero_le _, by simp, by simp, HR0.out, HB0.out⟩
  case round =>
    obtain ⟨j, hj, rfl, rfl, hR, hB⟩ := hrel
    have HB := hide hB
    have hl := dig_length n W j hj
    clear HR0 HB0 hmk hB
    by_cases hlt : j < W
    · have hc := hR.cell (W - j - 1) (by omega)
      have hf := hR.fr (W - j - 1) (by omega)
      have hR2 := (hR.set (W - j - 1) (by omega) (zd (n / 2 ^ j % 2 == 1)))
      rw [← dig_succ n W j hlt, zd_bit] at hR2
      have hq : n / 2 ^ j ≤ 18446744073709551615 := Nat.le_trans (Nat.div_le_self _ _) hn
      have hd : n / 2 ^ j / 2 = n / 2 ^ (j + 1) := by rw [Nat.div_div_eq_div_mul, Nat.pow_succ]
      have HR2 := hide hR2
      have HD := hide hd
      clear hR hR2 hd hl
      generalize n / 2 ^ j = q at *
      have h1 : (0 : Int) ≤ (W : Int) - 1 - j := by omega
      have h2 : (W : Int) - 1 - j < W := by omega
      have h3 : ((W : Int) - 1 - j).toNat = W - j - 1 := by omega
      have h4 : IntKind.i64.wrap ((W : Int) - 1 - j) = (W : Int) - 1 - j := by rw [IntKind.wrap_i64]; omega
      go_wp2
      go_roundw
      case rel => exact ⟨j + 1, by omega, val_int (by rw [← HD.out]; omega), val_int (by omega), HR2.out, HB.out.setCell (p := ⟨w.heap.size, W - j - 1, none⟩) (Nat.le_refl _) _⟩
      case measure => simp [intOf]; omega
    · have hje : j = W := by omega
      have hcv := run_convert_bytes_back (P := Tryz.prog) wr 83 9 5 ⟨w.heap.size, 0, none⟩ W (dig n W j) Tryz.underlying83 Tryz.underlying5 Tryz.underlying9 (fun i hi => by
        have := hR.cell i hi
        rw [List.getD_eq_getElem?_getD, List.getElem?_eq_getElem hi] at this
        have e : (⟨w.heap.size, 0, none⟩ : Addr).add i = ⟨w.heap.size, i, none⟩ := by simp [Addr.add]; exact fun h => h.symm
        rw [e]; exact this)
      rw [hl] at hcv
      have HE : Hid ((⟨(dig n W j).toArray⟩ : ByteArray) = zoS (Pl.bitsOf n W)) := by
        show _ = _
        rw [hje]; simp [dig, zoS]
      have h1 : ¬ (0 : Int) ≤ (W : Int) - 1 - j := by omega
      clear hR hl hje
      generalize (dig n W j) = dg at *
      go_wp2
      go_ret
      exact ⟨by rw [← HE.out]; rfl, HB.out⟩
end Go.Proofs.YtamcclcbmenjdaaGreatDoor

/- The reference: step. -/
namespace Go.Proofs.YtamcclcbmenjdaaGreatDoor
open Go.RowKit Go.Lib

theorem refBits_int (X Y : Int) (n W : Nat) (w : World) (hX : X = n) (hY : Y = W) (hn : n ≤ 18446744073709551615) (hW : W ≤ 64) :
    Calls Tryz.prog 77 #[.int .u64 X, .int .i64 Y] w fun e w' => e = .returned (.string (zoS (Pl.bitsOf n W))) ∧ Below w.heap.size w w' := by
  subst hX hY
  exact refBits_any n W w hn hW

/-- How a difference of differences is told. -/
def stepBits (e : Nat) : List Bool := markOf (stepWay e) 4 ++ Pl.bitsOf (add64 e (stepShift (stepWay e))) (stepWidth (stepWay e))
theorem timeBits_step (t s x : Nat) : timeBits t s x = stepBits (sub64 (sub64 x t) s) := rfl

theorem step0 {e : Nat} (he : e ≤ 18446744073709551615) (hz : IntKind.i64.wrap (e : Int) = 0) : stepBits e = [false] := by
  have h0 : e = 0 := by rw [IntKind.wrap_i64] at hz; omega
  subst h0; decide
theorem way_ge {e : Nat} (he : e ≤ 18446744073709551615) {z : Int} (hz : IntKind.i64.wrap (e : Int) = z) (h0 : z ≠ 0) : 1 ≤ (e : Int) ∧ ∀ s W : Int, 0 ≤ s → s < 4096 → W ≤ 4096 → (IntKind.u64.wrap ((e : Int) + s) < W ↔ (- s ≤ z ∧ z < W - s)) := by
  rw [IntKind.wrap_i64] at hz
  refine ⟨by omega, fun s W h1 h2 h3 => ?_⟩
  rw [IntKind.wrap_u64]
  omega
theorem step1 {e : Nat} (he : e ≤ 18446744073709551615) {z : Int} (hz : IntKind.i64.wrap (e : Int) = z) (h0 : z ≠ 0) (h1 : -63 ≤ z) (h2 : z ≤ 64) : stepBits e = [true, false] ++ Pl.bitsOf (add64 e 63) 7 := by
  obtain ⟨a, b⟩ := way_ge he hz h0
  have hw := way1 he a ((b 63 128 (by omega) (by omega) (by omega)).2 ⟨h1, by omega⟩)
  unfold stepBits; rw [hw]; rfl
theorem step2 {e : Nat} (he : e ≤ 18446744073709551615) {z : Int} (hz : IntKind.i64.wrap (e : Int) = z) (h0 : z ≠ 0) (_hn : ¬ (-63 ≤ z ∧ z ≤ 64)) (h1 : -255 ≤ z) (h2 : z ≤ 256) : stepBits e = [true, true, false] ++ Pl.bitsOf (add64 e 255) 9 := by
  obtain ⟨a, b⟩ := way_ge he hz h0
  have hw := way2 he a (Int.not_lt.1 fun h => by have := (b 63 128 (by omega) (by omega) (by omega)).1 h; omega) ((b 255 512 (by omega) (by omega) (by omega)).2 ⟨h1, by omega⟩)
  unfold stepBits; rw [hw]; rfl
theorem step3 {e : Nat} (he : e ≤ 18446744073709551615) {z : Int} (hz : IntKind.i64.wrap (e : Int) = z) (h0 : z ≠ 0) (_hn : ¬ (-63 ≤ z ∧ z ≤ 64)) (_hm : ¬ (-255 ≤ z ∧ z ≤ 256)) (h1 : -2047 ≤ z) (h2 : z ≤ 2048) : stepBits e = [true, true, true, false] ++ Pl.bitsOf (add64 e 2047) 12 := by
  obtain ⟨a, b⟩ := way_ge he hz h0
  have hw := way3 he a (Int.not_lt.1 fun h => by have := (b 63 128 (by omega) (by omega) (by omega)).1 h; omega) (Int.not_lt.1 fun h => by have := (b 255 512 (by omega) (by omega) (by omega)).1 h; omega) ((b 2047 4096 (by omega) (by omega) (by omega)).2 ⟨h1, by omega⟩)
  unfold stepBits; rw [hw]; rfl
theorem step4 {e : Nat} (he : e ≤ 18446744073709551615) {z : Int} (hz : IntKind.i64.wrap (e : Int) = z) (h0 : z ≠ 0) (_hn : ¬ (-63 ≤ z ∧ z ≤ 64)) (_hm : ¬ (-255 ≤ z ∧ z ≤ 256)) (hk : ¬ (-2047 ≤ z ∧ z ≤ 2048)) : stepBits e = [true, true, true, true] ++ Pl.bitsOf e 64 := by
  obtain ⟨a, b⟩ := way_ge he hz h0
  have hw := way4 he a (Int.not_lt.1 fun h => by have := (b 63 128 (by omega) (by omega) (by omega)).1 h; omega) (Int.not_lt.1 fun h => by have := (b 255 512 (by omega) (by omega) (by omega)).1 h; omega) (Int.not_lt.1 fun h => by have := (b 2047 4096 (by omega) (by omega) (by omega)).1 h; omega)
  have ha : add64 e 0 = e := by unfold add64; omega
  unfold stepBits; rw [hw]; show markOf 4 4 ++ Pl.bitsOf (add64 e 0) 64 = _; rw [ha]; rfl
theorem add_is {e s : Nat} (_he : e ≤ 18446744073709551615) {z : Int} (hz : IntKind.i64.wrap (e : Int) = z) (h1 : 0 ≤ z + s) (h2 : z + s < 5000) : z + s = (add64 e s : Int) := by
  rw [IntKind.wrap_i64] at hz; unfold add64; omega

set_option maxRecDepth 100000 in
set_option maxHeartbeats 400000 in
theorem refStep_any (e : Nat) (w : World) (he : e ≤ 18446744073709551615) :
    Calls Tryz.prog 78 #[.int .u64 e] w fun r w' => r = .returned (.string (zoS (stepBits e))) ∧ Below w.heap.size w w' := by
  obtain ⟨z, hz⟩ : ∃ z, IntKind.i64.wrap (e : Int) = z := ⟨_, rfl⟩
  have hzb : -9223372036854775808 ≤ z ∧ z ≤ 9223372036854775807 := by rw [IntKind.wrap_i64] at hz; omega
  obtain ⟨hzb1, hzb2⟩ := hzb
  by_cases h0 : z = 0
  · subst h0
    have HE := hide (step0 he hz)
    go_enter Tryz.func78, Tryz.ntmps78
    go_wp2
    go_ret
    exact ⟨by rw [HE.out]; rfl, Below.refl _ _⟩
  by_cases h1 : -63 ≤ z ∧ z ≤ 64
  · obtain ⟨g1, g2⟩ := h1
    have HE := hide (step1 he hz h0 g1 g2)
    have HA := hide (add_is (s := 63) he hz (by omega) (by omega))
    have hl : (zoS (Pl.bitsOf (add64 e 63) 7)).size = 7 := by rw [zoS_size, Pl.bitsOf_length]
    have HZ := hide (zoS_append [true, false] (Pl.bitsOf (add64 e 63) 7))
    have C : Hid (∀ (X : Int) (W : World), X = z + 63 → Calls Tryz.prog 77 #[.int .u64 X, .int .i64 7] W fun r w' => r = .returned (.string (zoS (Pl.bitsOf (add64 e 63) 7))) ∧ Below W.heap.size W w') := fun X W hX => refBits_int X 7 (add64 e 63) 7 W (hX.trans HA.out) rfl (add64_le _ _) (by decide)
    generalize zoS (Pl.bitsOf (add64 e 63) 7) = sb at *
    have hs1 : ¬ 9223372036854775807 < 2 + sb.size := by omega
    clear hl HA
    go_enter Tryz.func78, Tryz.ntmps78
    go_wp2_with fail
    all_goals
      refine (C.out _ _ (by omega)).mono ?_
      rintro r w2 ⟨rfl, hb2⟩
      have HB2 := hide hb2
      clear hb2
      go_wp2
      go_ret
      exact ⟨by rw [HE.out, ← HZ.out]; rfl, HB2.out⟩
  by_cases h2 : -255 ≤ z ∧ z ≤ 256
  · obtain ⟨g1, g2⟩ := h2
    have HE := hide (step2 he hz h0 h1 g1 g2)
    have HA := hide (add_is (s := 255) he hz (by omega) (by omega))
    have hl : (zoS (Pl.bitsOf (add64 e 255) 9)).size = 9 := by rw [zoS_size, Pl.bitsOf_length]
    have HZ := hide (zoS_append [true, true, false] (Pl.bitsOf (add64 e 255) 9))
    have C : Hid (∀ (X : Int) (W : World), X = z + 255 → Calls Tryz.prog 77 #[.int .u64 X, .int .i64 9] W fun r w' => r = .returned (.string (zoS (Pl.bitsOf (add64 e 255) 9))) ∧ Below W.heap.size W w') := fun X W hX => refBits_int X 9 (add64 e 255) 9 W (hX.trans HA.out) rfl (add64_le _ _) (by decide)
    generalize zoS (Pl.bitsOf (add64 e 255) 9) = sb at *
    have hs1 : ¬ 9223372036854775807 < 3 + sb.size := by omega
    clear hl HA
    go_enter Tryz.func78, Tryz.ntmps78
    go_wp2_with fail
    all_goals
      refine (C.out _ _ (by omega)).mono ?_
      rintro r w2 ⟨rfl, hb2⟩
      have HB2 := hide hb2
      clear hb2
      go_wp2
      go_ret
      exact ⟨by rw [HE.out, ← HZ.out]; rfl, HB2.out⟩
  by_cases h3 : -2047 ≤ z ∧ z ≤ 2048
  · obtain ⟨g1, g2⟩ := h3
    have HE := hide (step3 he hz h0 h1 h2 g1 g2)
    have HA := hide (add_is (s := 2047) he hz (by omega) (by omega))
    have hl : (zoS (Pl.bitsOf (add64 e 2047) 12)).size = 12 := by rw [zoS_size, Pl.bitsOf_length]
    have HZ := hide (zoS_append [true, true, true, false] (Pl.bitsOf (add64 e 2047) 12))
    have C : Hid (∀ (X : Int) (W : World), X = z + 2047 → Calls Tryz.prog 77 #[.int .u64 X, .int .i64 12] W fun r w' => r = .returned (.string (zoS (Pl.bitsOf (add64 e 2047) 12))) ∧ Below W.heap.size W w') := fun X W hX => refBits_int X 12 (add64 e 2047) 12 W (hX.trans HA.out) rfl (add64_le _ _) (by decide)
    generalize zoS (Pl.bitsOf (add64 e 2047) 12) = sb at *
    have hs1 : ¬ 9223372036854775807 < 4 + sb.size := by omega
    clear hl HA
    go_enter Tryz.func78, Tryz.ntmps78
    go_wp2_with fail
    all_goals
      refine (C.out _ _ (by omega)).mono ?_
      rintro r w2 ⟨rfl, hb2⟩
      have HB2 := hide hb2
      clear hb2
      go_wp2
      go_ret
      exact ⟨by rw [HE.out, ← HZ.out]; rfl, HB2.out⟩
  · have HE := hide (step4 he hz h0 h1 h2 h3)
    have hl : (zoS (Pl.bitsOf (e) 64)).size = 64 := by rw [zoS_size, Pl.bitsOf_length]
    have HZ := hide (zoS_append [true, true, true, true] (Pl.bitsOf (e) 64))
    have C : Hid (∀ (X : Int) (W : World), X = e → Calls Tryz.prog 77 #[.int .u64 X, .int .i64 64] W fun r w' => r = .returned (.string (zoS (Pl.bitsOf (e) 64))) ∧ Below W.heap.size W w') := fun X W hX => refBits_int X 64 (e) 64 W (hX) rfl (he) (by decide)
    generalize zoS (Pl.bitsOf (e) 64) = sb at *
    have hs1 : ¬ 9223372036854775807 < 4 + sb.size := by omega
    clear hl
    go_enter Tryz.func78, Tryz.ntmps78
    go_wp2_with fail
    all_goals
      refine (C.out _ _ (by omega)).mono ?_
      rintro r w2 ⟨rfl, hb2⟩
      have HB2 := hide hb2
      clear hb2
      go_wp2
      go_ret
      exact ⟨by rw [HE.out, ← HZ.out]; rfl, HB2.out⟩
end Go.Proofs.YtamcclcbmenjdaaGreatDoor

/- The reference: count. -/
namespace Go.Proofs.YtamcclcbmenjdaaGreatDoor
open Go.RowKit Go.Lib

/-- Bit i of 64, the highest first. -/
def hib (X i : Nat) : Bool := X / 2 ^ (63 - i) % 2 == 1
theorem bitsOf_get (n : Nat) : ∀ (k i : Nat), i < k → (Pl.bitsOf n k)[i]? = some (n / 2 ^ (k - 1 - i) % 2 == 1)
  | 0, i, h => by omega
  | k + 1, 0, _ => by simp [Pl.bitsOf]
  | k + 1, i + 1, h => by
    rw [Pl.bitsOf, List.getElem?_cons_succ, bitsOf_get n k i (by omega), show k + 1 - 1 - (i + 1) = k - 1 - i by omega]
theorem zoS_get (l : List Bool) (i : Nat) (h : i < (zoS l).size) (b : Bool) (hb : l[i]? = some b) : ((zoS l)[i]).toNat = if b then 49 else 48 := by
  have h2 : i < l.length := by rw [zoS_size] at h; exact h
  have e : (zoS l)[i] = (zo l).toArray[i]'(by simpa [zo] using h2) := rfl
  rw [List.getElem?_eq_getElem h2] at hb
  cases hb
  rw [e]
  simp only [List.getElem_toArray, zo, List.getElem_map]
  cases l[i] <;> rfl
theorem hib_get (X i : Nat) (h : i < (zoS (Pl.bitsOf X 64)).size) : ((zoS (Pl.bitsOf X 64))[i]).toNat = if hib X i then 49 else 48 :=
  zoS_get _ i h _ (bitsOf_get X 64 i (by rw [zoS_size, Pl.bitsOf_length] at h; exact h))

theorem lz_ahead (X i : Nat) (hX : X < 2 ^ 64) (h : i < lz X) : hib X i = false := by
  have h1 : X < 2 ^ Lib.bitLen X := bitLenAux_lt 64 X hX
  have h2 : Lib.bitLen X ≤ 64 := bitLenAux_le 64 X
  have h3 : X < 2 ^ (63 - i) := Nat.lt_of_lt_of_le h1 (Nat.pow_le_pow_right (by decide) (by unfold lz at h; omega))
  simp [hib, Nat.div_eq_of_lt h3]
theorem lz_at (X : Nat) (h0 : X ≠ 0) (hX : X < 2 ^ 64) : lz X < 64 ∧ hib X (lz X) = true := by
  obtain ⟨h1, h2, h3⟩ := Lib.bitLenAux_bounds 64 X hX h0
  have h4 : Lib.bitLen X ≤ 64 := bitLenAux_le 64 X
  have h5 : Lib.bitLen X = Lib.bitLenAux 64 X := rfl
  refine ⟨by unfold lz; omega, ?_⟩
  have e : 63 - lz X = Lib.bitLenAux 64 X - 1 := by unfold lz; omega
  unfold hib
  rw [e]
  obtain ⟨L, hL⟩ : ∃ L, Lib.bitLenAux 64 X = L + 1 := ⟨_, (Nat.sub_add_cancel h1).symm⟩
  rw [hL] at h2 h3 ⊢
  simp only [Nat.add_sub_cancel] at h2 ⊢
  have h6 : X / 2 ^ L = 1 := by
    apply Nat.div_eq_of_lt_le
    · simpa using h2
    · rw [Nat.pow_succ] at h3; omega
  rw [h6]; rfl
theorem tz_spec (X : Nat) (h0 : X ≠ 0) (hX : X < 2 ^ 64) : ∃ m, X = 2 ^ tz X * m ∧ m % 2 = 1 := by
  obtain ⟨m, hm, _⟩ := Lib.ctzFrom_spec 64 X (by omega) hX
  have e : tz X = Lib.ctzFrom 64 X := by unfold tz Lib.ctz; rw [if_neg h0]
  rw [e]
  exact ⟨2 * m + 1, hm, by omega⟩
theorem tz_behind (X i : Nat) (h0 : X ≠ 0) (hX : X < 2 ^ 64) (h : i < tz X) : hib X (63 - i) = false := by
  obtain ⟨m, hm, _⟩ := tz_spec X h0 hX
  have h1 := lz_tz X h0 hX
  unfold hib
  rw [show 63 - (63 - i) = i by omega]
  obtain ⟨d, hd⟩ : ∃ d, tz X = i + 1 + d := ⟨tz X - i - 1, by omega⟩
  rw [hd] at hm
  have h2 : X / 2 ^ i = 2 * (2 ^ d * m) := by
    rw [hm, show i + 1 + d = i + (d + 1) by omega, Nat.pow_add, Nat.mul_assoc, Nat.mul_div_cancel_left _ (Nat.two_pow_pos i), Nat.pow_succ]
    rw [Nat.mul_comm (2 ^ d) 2, Nat.mul_assoc]
  rw [h2]; simp
theorem tz_at (X : Nat) (h0 : X ≠ 0) (hX : X < 2 ^ 64) : tz X < 64 ∧ hib X (63 - tz X) = true := by
  obtain ⟨m, hm, h2⟩ := tz_spec X h0 hX
  have h1 := lz_tz X h0 hX
  refine ⟨by omega, ?_⟩
  unfold hib
  rw [show 63 - (63 - tz X) = tz X by omega]
  have h3 : X / 2 ^ tz X = m := by
    generalize tz X = t at *
    rw [hm, Nat.mul_div_cancel_left _ (Nat.two_pow_pos t)]
  rw [h3, h2]; rfl

set_option maxRecDepth 100000 in
set_option maxHeartbeats 400000 in
theorem count_at (x : ByteArray) (f : Nat → Bool) (A B : Nat) (w : World) (hx : x.size = 64) (hf : ∀ k (h : k < x.size), x[k].toNat = if f k then 49 else 48)
    (ha1 : ∀ i, i < A → f i = false) (ha2 : f A = true) (hA : A < 64) (hb1 : ∀ i, i < B → f (63 - i) = false) (hb2 : f (63 - B) = true) (hB : B < 64) :
    Calls Tryz.prog 79 #[.string x] w fun e w' => e = .returned (.tuple #[.int .i64 A, .int .i64 B]) ∧ w' = w := by
  have HF := hide hf
  have HA1 := hide ha1
  have HA2 := hide ha2
  have HB1 := hide hb1
  have HB2 := hide hb2
  clear hf ha1 ha2 hb1 hb2
  go_enter Tryz.func79, Tryz.ntmps79
  go_wp2
  go_loop [4] (fun i => ∃ k : Nat, k ≤ A ∧ i = .int .i64 k) (fun i => A - (intOf i).toNat)
  case atStart => exact ⟨0, by omega, rfl⟩
  case round =>
    obtain ⟨k, hk, rfl⟩ := hrel
    have hks : k < x.size := by omega
    have hv := HF.out k hks
    by_cases hlt : k < A
    · rw [HA1.out k hlt] at hv
      simp only [Bool.false_eq_true, if_false] at hv
      go_wp2
      go_round
      case rel => exact ⟨k + 1, by omega, by go_num⟩
      case measure => simp [intOf]; omega
    · obtain rfl : k = A := by omega
      rw [HA2.out] at hv
      simp only [if_true] at hv
      go_wp2
      go_loop [5] (fun i => ∃ b : Nat, b ≤ B ∧ i = .int .i64 b) (fun i => B - (intOf i).toNat)
      case atStart => exact ⟨0, by omega, rfl⟩
      case round =>
        obtain ⟨b, hb, rfl⟩ := hrel
        have hbs : 63 - b < x.size := by omega
        have hu := HF.out (63 - b) hbs
        have e1 : (0 : Int) ≤ 64 - 1 - (b : Int) := by omega
        have e2 : (64 : Int) - 1 - (b : Int) < 64 := by omega
        have e3 : ((64 : Int) - 1 - (b : Int)).toNat = 63 - b := by omega
        by_cases hlt2 : b < B
        · rw [HB1.out b hlt2] at hu
          simp only [Bool.false_eq_true, if_false] at hu
          go_wp2
          go_round
          case rel => exact ⟨b + 1, by omega, by go_num⟩
          case measure => simp [intOf]; omega
        · obtain rfl : b = B := by omega
          rw [HB2.out] at hu
          simp only [if_true] at hu
          go_wp2
          go_ret2
          exact ⟨rfl, rfl⟩

theorem count_any (X : Nat) (w : World) (h0 : X ≠ 0) (hX : X < 2 ^ 64) :
    Calls Tryz.prog 79 #[.string (zoS (Pl.bitsOf X 64))] w fun e w' => e = .returned (.tuple #[.int .i64 (lz X), .int .i64 (tz X)]) ∧ w' = w :=
  count_at _ (hib X) (lz X) (tz X) w (by rw [zoS_size, Pl.bitsOf_length]) (fun k h => hib_get X k h) (fun i h => lz_ahead X i hX h) (lz_at X h0 hX).2 (lz_at X h0 hX).1 (fun i h => tz_behind X i h0 hX h) (tz_at X h0 hX).2 (tz_at X h0 hX).1
end Go.Proofs.YtamcclcbmenjdaaGreatDoor

/- The reference: filled. -/
namespace Go.Proofs.YtamcclcbmenjdaaGreatDoor
open Go.RowKit Go.Lib

/-- The number of the first j of some bits. -/
def nb (f : Nat → Bool) : Nat → Nat
  | 0 => 0
  | j + 1 => 2 * nb f j + (f j).toNat
theorem nb_lt (f : Nat → Bool) : ∀ j, nb f j < 2 ^ j
  | 0 => by simp [nb]
  | j + 1 => by
    have := nb_lt f j
    have h : (f j).toNat ≤ 1 := by cases f j <;> decide
    rw [nb, Nat.pow_succ]; omega
theorem nb_8 (f : Nat → Bool) : nb f 8 = Pl.byteOf f := by
  simp only [nb, Pl.byteOf]; omega
theorem below_grownOwn {base : Nat} {w wr w1 : World} {o : Value} {xs : List UInt8} {ob : Obj} (hB : Below base w wr) (hb : Bytes base wr o xs) (hs : base ≤ wr.heap.size) (hg : (wr.alloc ob).grownBy w1 o.ownBlock) : Below base w w1 :=
  (hB.alloc hs ob).grown hg (by simp; omega) (fun k hk => Nat.le_of_not_lt fun h => own_ne hb h hk)

set_option maxRecDepth 100000 in
set_option maxHeartbeats 400000 in
theorem filled_any (l : List Bool) (w : World) (hl : l.length ≤ 100000) (hl0 : 0 < l.length) :
    Calls Tryz.prog 42 #[.string (zoS l)] w fun e w' => e = .returned (.string ⟨(Pl.pack l).toArray⟩) ∧ Below w.heap.size w w' := by
  obtain ⟨i0, hi, hz0, hz1, hz2⟩ := info_parts Tryz.infoU8
  generalize hs0 : zoS l = s0
  go_enter Tryz.func42, Tryz.ntmps42
  go_wp2
  go_loop [0] (fun s => ∃ (j : Nat) (sb : ByteArray), j ≤ 7 ∧ l.length + j ≤ (l.length + 7) / 8 * 8 ∧ s = .string sb ∧ sb.size = l.length + j ∧ Hid (sb = zoS (l ++ List.replicate j false))) (fun s => (l.length + 7) / 8 * 8 - (match s with | .string sb => sb.size | _ => 0))
  case atStart => exact ⟨0, s0, by omega, by omega, rfl, by rw [← hs0, zoS_size]; rfl, by show _ = _; rw [← hs0]; simp⟩
  case round =>
    obtain ⟨j, sb, hj, hj2, rfl, hsz, HS⟩ := hrel
    by_cases hm : (l.length + j) % 8 = 0
    · have e1 : (((l.length : Int) + (j : Int)) % 8 != 0) = false := by simp; omega
      obtain ⟨M, hM⟩ : ∃ M, M = (l.length + 7) / 8 := ⟨_, rfl⟩
      have hsM : sb.size = 8 * M := by omega
      have hpl : (Pl.pack l).length = M := by rw [Pl.pack_length, hM]
      have HG : Hid (∀ i (h : i < sb.size), sb[i].toNat = if l.getD i false then 49 else 48) := by
        intro i h
        have hS := HS.out
        subst hS
        refine zoS_get _ i h _ ?_
        rw [zoS_size] at h
        rw [List.getElem?_eq_getElem h]
        by_cases hil : i < l.length
        · rw [List.getElem_append_left hil, List.getD_eq_getElem?_getD, List.getElem?_eq_getElem hil]; rfl
        · rw [List.getElem_append_right (by omega), List.getElem_replicate, List.getD_eq_getElem?_getD, List.getElem?_eq_none (by omega)]; rfl
      have hM2 : M ≤ 12501 := by omega
      have hM0 : 0 < M := by omega
      have HHP := hide hpl
      have HHM := hide hM
      clear hpl hM HS hs0
      have HSz := hide hsz
      have hj3 : (((8 * M : Nat) : Int) % 8 != 0) = false := by simp
      have hj4 : (8 * (M : Int) % 8 != 0) = false := by simp
      clear hsz e1
      go_wp2
      go_loopw [3, 4, 5, 6] (fun o i _ _ wr => ∃ k : Nat, k ≤ M ∧ i = .int .i64 ((8 * k : Nat) : Int) ∧ Bytes w.heap.size wr o ((Pl.pack l).take k) ∧ Below w.heap.size w wr) (fun _ i _ _ _ => 8 * M - (intOf i).toNat)
      case atStart => exact ⟨0, by omega, rfl, World.ownsRow_nil _ _ _ _, Below.refl _ _⟩
      case round =>
        obtain ⟨k, hk, rfl, hbs, hB⟩ := hrel
        have hsz2 := hB.size
        by_cases hlt : k < M
        · have HBs := hide hbs
          have HB := hide hB
          clear hbs hB
          have hkk : 8 * (k : Int) < 8 * (M : Int) := by omega
          go_wp2
          go_loop [5, 6] (fun n q => ∃ t : Nat, t ≤ 8 ∧ q = .int .i64 t ∧ n = .int .i64 (nb (fun i => l.getD (8 * k + i) false) t)) (fun _ q => 8 - (intOf q).toNat)
          case atStart => exact ⟨0, by omega, rfl, rfl⟩
          case round =>
            obtain ⟨t, ht, rfl, rfl⟩ := hrel
            have hnl := nb_lt (fun i => l.getD (8 * k + i) false) t
            have hnp : 2 ^ t ≤ 256 := Nat.le_trans (Nat.pow_le_pow_right (by decide) ht) (by decide)
            by_cases htl : t < 8
            · have hix : 8 * k + t < sb.size := by omega
              have hv := HG.out (8 * k + t) hix
              have HN : Hid (nb (fun i => l.getD (8 * k + i) false) (t + 1) = 2 * nb (fun i => l.getD (8 * k + i) false) t + (l.getD (8 * k + t) false).toNat) := rfl
              generalize nb (fun i => l.getD (8 * k + i) false) t = nn at *
              have hi0 : (0 : Int) ≤ 8 * (k : Int) + (t : Int) := by omega
              have hi1 : 8 * (k : Int) + (t : Int) < 8 * (M : Int) := by omega
              have hi2 : (8 * (k : Int) + (t : Int)).toNat = 8 * k + t := by omega
              cases hbit : l.getD (8 * k + t) false with
              | true =>
                rw [hbit] at hv HN
                simp only [if_true] at hv
                clear hbit
                go_wp2
                go_round
                case rel => exact ⟨t + 1, by omega, by go_num, val_int (by rw [HN.out]; simp)⟩
                case measure => simp [intOf]; omega
              | false =>
                rw [hbit] at hv HN
                simp only [Bool.false_eq_true, if_false] at hv
                clear hbit
                go_wp2
                go_round
                case rel => exact ⟨t + 1, by omega, by go_num, val_int (by rw [HN.out]; simp)⟩
                case measure => simp [intOf]; omega
            · obtain rfl : t = 8 := by omega
              have HP : Hid ((Pl.pack l).take (k + 1) = (Pl.pack l).take k ++ [UInt8.ofNat (nb (fun i => l.getD (8 * k + i) false) 8)]) := by
                show _ = _
                rw [List.take_succ_eq_append_getElem (by rw [HHP.out]; exact hlt)]
                congr 1
                simp only [Pl.pack, List.getElem_map, List.getElem_range, Pl.byteAt, nb_8]
              have hbs := HBs.out
              generalize nb (fun i => l.getD (8 * k + i) false) 8 = nn at *
              have hn256 : (nn : Int) % 256 = nn := by omega
              have hxl : ((Pl.pack l).take k).length ≤ 12501 := by rw [List.length_take]; omega
              generalize (Pl.pack l).take k = xs at *
              go_wp2_with (first | (at_builtin; refine wpList_append_heir _ rfl (.tmp 33) (.tmp 36) 83 rfl w.heap.size 5 i0 (.int .u8 0) 1 1 Tryz.underlying83 hi hz0 hz1 hz2 rfl (by decide) _ _ _ rfl (hbs.alloc _) ⟨wr.heap.size, 0, none⟩ 1 1 [.int .u8 (nn : Int)] rfl rfl ?c1 ?c2 ?c3 ?c4 ?c5 ?_))
              case c2 => rfl
              case c3 => unfold maxLen; omega
              case c4 => omega
              case c5 => omega
              intro v' w1 hown' hgrow hheir
              have R := (bytes_step (nn : Int) (grownBy_refl wr _) (Heir.refl wr _) hown' hgrow hheir (UInt8.ofNat nn) (by rw [Pl.u8_ofNat _ (by omega)])).1
              have B1 := below_grownOwn HB.out HBs.out (by omega) hgrow
              rw [← HP.out] at R
              have HR := hide R
              have HB1 := hide B1
              clear hown' hgrow hheir hbs HBs HB R B1
              go_wp2
              go_roundw
              case rel => exact ⟨k + 1, by omega, val_int (by omega), HR.out, HB1.out⟩
              case measure => simp [intOf]; omega
        · have hkM : k = M := by omega
          subst hkM
          rw [List.take_of_length_le (by rw [HHP.out]; exact Nat.le_refl _)] at hbs
          have hcv := run_string_of hbs (by rw [HHP.out]; exact hM0)
          have HB := hide hB
          obtain ⟨g, cap, rfl, _⟩ := ownsRow_some hbs (by rw [HHP.out]; exact hM0)
          have hkk : ¬ 8 * (k : Int) < 8 * (k : Int) := by omega
          clear hbs hB
          go_wp2
          go_ret
          exact ⟨rfl, HB.out⟩
    · have e1 : (((l.length : Int) + (j : Int)) % 8 != 0) = true := by simp; omega
      have HA : Hid (sb ++ ⟨#[48]⟩ = zoS (l ++ List.replicate (j + 1) false)) := by
        show _ = _
        rw [HS.out, List.replicate_succ', ← List.append_assoc, ← zoS_append (l ++ List.replicate j false) [false]]; rfl
      clear HS hs0
      go_wp2
      go_round
      case rel => exact ⟨j + 1, _, by omega, by omega, rfl, by rw [ByteArray.size_append, hsz]; rfl, HA.out⟩
      case measure => simp only [ByteArray.size_append, hsz]; show _ - (l.length + j + 1) < _; omega
end Go.Proofs.YtamcclcbmenjdaaGreatDoor

/- The reference: what Chunk cuts. -/
namespace Go.Proofs.YtamcclcbmenjdaaGreatDoor
open Go.RowKit Go.Lib

theorem refStep_int (X : Int) (e : Nat) (w : World) (hX : X = e) (he : e ≤ 18446744073709551615) :
    Calls Tryz.prog 78 #[.int .u64 X] w fun r w' => r = .returned (.string (zoS (stepBits e))) ∧ Below w.heap.size w w' := by
  subst hX; exact refStep_any e w he

theorem wrap_times (tk tp : Int) : IntKind.u64.wrap ((u64 tk : Int) - (u64 tp : Int)) = (sub64 (u64 tk) (u64 tp) : Int) := wrap_sub64 _ _ (u64_le _)
/-- The 64 bits of a number as a text. -/
def bsI (X : Int) : ByteArray := zoS (Pl.bitsOf X.toNat 64)
theorem bsI_size (X : Int) : (bsI X).size = 64 := by rw [bsI, zoS_size, Pl.bitsOf_length]
theorem bsI_any (X : Int) (w : World) (h0 : 0 ≤ X) (h1 : X ≤ 18446744073709551615) :
    Calls Tryz.prog 77 #[.int .u64 X, .int .i64 64] w fun e w' => e = .returned (.string (bsI X)) ∧ Below w.heap.size w w' :=
  refBits_int X 64 X.toNat 64 w (by omega) rfl (by omega) (by decide)

theorem zoS_extract (l : List Bool) (a b : Nat) : (zoS l).extract a b = zoS ((l.take b).drop a) := by
  apply ByteArray.ext
  apply Array.ext'
  rw [ByteArray.data_extract, Array.toList_extract, List.extract_eq_take_drop, List.drop_take]
  simp [zoS, zo, List.map_drop, List.map_take]
theorem bits_tail (X : Nat) : ∀ (n k : Nat), k ≤ n → (Pl.bitsOf X n).drop (n - k) = Pl.bitsOf X k
  | 0, k, h => by obtain rfl : k = 0 := by omega
                  rfl
  | n + 1, k, h => by
    by_cases e : k = n + 1
    · subst e; simp
    · rw [show n + 1 - k = (n - k) + 1 by omega, Pl.bitsOf, List.drop_succ_cons, bits_tail X n k (by omega)]
theorem bits_head (X : Nat) : ∀ (z d : Nat), (Pl.bitsOf X (z + d)).take z = Pl.bitsOf (X / 2 ^ d) z
  | 0, d => by simp [Pl.bitsOf]
  | z + 1, d => by
    rw [show z + 1 + d = (z + d) + 1 by omega, Pl.bitsOf, List.take_succ_cons, bits_head X z d, Pl.bitsOf]
    congr 2
    rw [Nat.div_div_eq_div_mul, ← Nat.pow_add, Nat.add_comm d z]
theorem bits_slice (X a z : Nat) (h : a + z ≤ 64) : ((Pl.bitsOf X 64).take (a + z)).drop a = Pl.bitsOf (X / 2 ^ (64 - a - z)) z := by
  have h1 : (Pl.bitsOf X 64).drop a = Pl.bitsOf X (64 - a) := by
    have := bits_tail X 64 (64 - a) (by omega)
    rwa [show 64 - (64 - a) = a by omega] at this
  have h2 := bits_head X z (64 - a - z)
  rw [show z + (64 - a - z) = 64 - a by omega] at h2
  rw [List.drop_take, show a + z - a = z by omega, h1, h2]
theorem cut_bits (X a z : Nat) (h : a + z ≤ 64) : (zoS (Pl.bitsOf X 64)).extract a (a + z) = zoS (Pl.bitsOf (X / 2 ^ (64 - a - z)) z) := by rw [zoS_extract, bits_slice X a z h]
theorem stepBits_len (e : Nat) : (stepBits e).length ≤ 69 := by
  have h := timeBits_app [] 0 0 e
  have h2 : stepWay e ≤ 4 := stepWay_le e
  unfold stepBits
  rw [List.length_append, Pl.bitsOf_length]
  have h3 : (markOf (stepWay e) 4).length ≤ 4 := by
    rcases (show stepWay e = 0 ∨ stepWay e = 1 ∨ stepWay e = 2 ∨ stepWay e = 3 ∨ stepWay e = 4 by omega) with h | h | h | h | h <;> rw [h] <;> decide
  have h4 : stepWidth (stepWay e) ≤ 64 := by
    rcases (show stepWay e = 0 ∨ stepWay e = 1 ∨ stepWay e = 2 ∨ stepWay e = 3 ∨ stepWay e = 4 by omega) with h | h | h | h | h <;> rw [h] <;> decide
  omega
end Go.Proofs.YtamcclcbmenjdaaGreatDoor

/- The sum: the contract of frame.sum. -/
import Derived.Test.YtcidgfdiacehmaaDoorProg
import Derived.Test.YtcidgfdiacehmaaDoorPlain
import Derived.WalkKit
import Derived.WalkSpells
import Derived.WalkLawsBesides
namespace Go.Proofs.YtcidgfdiacehmaaDoor
open Go.RowKit

theorem ret_int {k : IntKind} {a b : Int} (h : a = b) : Ending.returned (.int k a) = .returned (.int k b) := by rw [h]
theorem val_int {k : IntKind} {a b : Int} (h : a = b) : Value.int k a = .int k b := by rw [h]
theorem take_snoc (s : ByteArray) (k : Nat) (h : k < s.size) : s.data.toList.take (k + 1) = s.data.toList.take k ++ [s[k]] := by
  rw [List.take_succ_eq_append_getElem (by simpa using h)]; rfl

set_option maxHeartbeats 400000 in
theorem sum_any (s : ByteArray) (w : World) (hs : s.size ≤ maxLen) :
    Calls Tryd.prog 50 #[.string s] w fun e w' => e = .returned (.int .u32 (Pl.crc s.data.toList)) ∧ w' = w := by
  unfold maxLen at hs
  go_enter Tryd.func50, Tryd.ntmps50
  go_wp2
  go_loop [3, 8] (fun n j => ∃ (k x : Nat), k ≤ s.size ∧ j = .int .i64 k ∧ n = .int .u32 x ∧ x < 2 ^ 32 ∧ Hid (x = Pl.crcAll 4294967295 (s.data.toList.take k))) (fun _ j => s.size - (intOf j).toNat)
  case atStart => exact ⟨0, 4294967295, by omega, rfl, rfl, by decide, rfl⟩
  case round =>
    obtain ⟨k, x, hk, rfl, rfl, hx, HX⟩ := hrel
    by_cases hlt : k < s.size
    · have hb : s[k].toNat < 256 := s[k].toNat_lt
      have hbx : bits .xor .u32 (x : Int) (s[k].toNat : Int) = ((x ^^^ s[k].toNat : Nat) : Int) := Pl.bits_xor_u32_nat _ _ hx (by omega)
      have hy : x ^^^ s[k].toNat < 2 ^ 32 := Nat.xor_lt_two_pow hx (by omega)
      have HY : Hid (Pl.crcIt 8 (x ^^^ s[k].toNat) = Pl.crcAll 4294967295 (s.data.toList.take (k + 1))) := by
        show Pl.crcByte x s[k] = _
        rw [take_snoc s k hlt, Pl.crcAll_snoc, ← HX.out]
      clear HX
      generalize x ^^^ s[k].toNat = y at *
      go_wp2
      go_loop [3, 5, 17] (fun n odd l => ∃ (i z : Nat), i ≤ 8 ∧ l = .int .i64 i ∧ n = .int .u32 z ∧ z < 2 ^ 32 ∧ Hid (z = Pl.crcIt i y)) (fun _ _ l => 8 - (intOf l).toNat)
      case atStart => exact ⟨0, y, by omega, rfl, rfl, hy, rfl⟩
      case round =>
        obtain ⟨i, z, hi, rfl, rfl, hz, HZ⟩ := hrel
        have hand := Pl.bits_and1_u32 z hz
        by_cases hil : i < 8
        · by_cases hodd : z % 2 = 1
          · have ht : ((z % 2 : Nat) : Int) = 1 := by omega
            have HN : Hid (Pl.crcBit z = (z / 2) ^^^ 2197175160) := by show Pl.crcBit z = _; rw [Pl.crcBit, if_pos hodd]
            have hx2 : bits .xor .u32 ((z : Int) / 2) 2197175160 = (((z / 2) ^^^ 2197175160 : Nat) : Int) := by
              have := Pl.bits_xor_u32_nat (z / 2) 2197175160 (by omega) (by decide)
              simpa using this
            go_wp2
            go_round
            case rel => exact ⟨i + 1, _, by omega, by go_num, rfl, Nat.xor_lt_two_pow (by omega) (by decide), by show _ = Pl.crcBit (Pl.crcIt i y); rw [← HZ.out]; exact HN.out.symm⟩
            case measure => simp [intOf]; omega
          · have ht : ((z % 2 : Nat) : Int) = 0 := by omega
            go_wp2
            go_round
            case rel => exact ⟨i + 1, z / 2, by omega, by go_num, by go_num, by omega, by show _ = Pl.crcBit (Pl.crcIt i y); rw [← HZ.out, Pl.crcBit, if_neg hodd]⟩
            case measure => simp [intOf]; omega
        · obtain rfl : i = 8 := by omega
          go_wp2
          go_round
          case rel => exact ⟨k + 1, z, by omega, by go_num, rfl, hz, by show z = _; rw [HZ.out]; exact HY.out⟩
          case measure => simp [intOf]; omega
    · go_wp2
      go_ret
      obtain rfl : k = s.size := by omega
      have h1 : x = Pl.crcAll 4294967295 s.data.toList := by rw [HX.out, List.take_of_length_le (by simp)]
      exact ⟨ret_int (by rw [Pl.crc, ← h1, show IntKind.u32.max = ((4294967295 : Nat) : Int) by decide, Pl.bits_xor_u32_nat _ _ (by decide) hx, Nat.xor_comm]), rfl⟩
end Go.Proofs.YtcidgfdiacehmaaDoor

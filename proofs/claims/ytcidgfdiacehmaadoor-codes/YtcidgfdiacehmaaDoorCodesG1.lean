/- 'choirlaw.Codes', for every list of series: Encode answers the document's frame or error, byte by byte, and what is handed in stays. The first form's statement and its card: no condition beside the row's own. -/
import Derived.Test.YtcidgfdiacehmaaDoorSum
import Derived.Test.YtcidgfdiacehmaaDoorPack
import Derived.Test.YtcidgfdiacehmaaDoorChunk
import Derived.Lib.ItoaNum
import Derived.Test.YtcidgfdiacehmaaDoorInvNum
import Derived.Test.YtcidgfdiacehmaaDoorDecode
import Derived.Test.YtcidgfdiacehmaaDoorAppStr
import Derived.Test.YtcidgfdiacehmaaDoorCheck
/- The reference: Sum. -/
namespace Go.Proofs.YtcidgfdiacehmaaDoor
open Go.RowKit

namespace Pl
/-- One bit of the reference's sum. -/
def refBit (c d : Nat) : Nat := if c % 2 = d % 2 then c / 2 else (c / 2) ^^^ 2197175160
theorem xor_div2 (a b : Nat) : (a ^^^ b) / 2 = a / 2 ^^^ b / 2 := by
  have := Nat.shiftRight_xor_distrib (a := a) (b := b) (i := 1)
  simpa [Nat.shiftRight_eq_div_pow] using this
theorem xor_mod2 (a b : Nat) : (a ^^^ b) % 2 = 1 ↔ ¬ a % 2 = b % 2 := by
  rw [Nat.xor_mod_two_eq_one]; omega
theorem refBit_is (c d : Nat) : refBit c d = crcBit (c ^^^ d) ^^^ (d / 2) := by
  unfold refBit crcBit
  by_cases h : c % 2 = d % 2
  · rw [if_pos h, if_neg (fun h2 => (xor_mod2 _ _).1 h2 h), xor_div2, Nat.xor_assoc, Nat.xor_self, Nat.xor_zero]
  · rw [if_neg h, if_pos ((xor_mod2 _ _).2 h), xor_div2]
    generalize c / 2 = a
    generalize d / 2 = b
    rw [Nat.xor_assoc (a ^^^ b), Nat.xor_comm 2197175160, ← Nat.xor_assoc (a ^^^ b), Nat.xor_assoc a b b, Nat.xor_self, Nat.xor_zero]
def refIt (c d : Nat) : Nat → Nat
  | 0 => c
  | k + 1 => refBit (refIt c d k) (d / 2 ^ k)
theorem refIt_is (c d : Nat) : ∀ k, refIt c d k = crcIt k (c ^^^ d) ^^^ (d / 2 ^ k)
  | 0 => by simp [refIt, crcIt, Nat.xor_assoc]
  | k + 1 => by
    have e : d / 2 ^ k / 2 = d / 2 ^ (k + 1) := by rw [Nat.div_div_eq_div_mul, Nat.pow_succ]
    rw [refIt, refBit_is, refIt_is c d k, Nat.xor_assoc, Nat.xor_self, Nat.xor_zero, crcIt, e]
theorem refIt_8 (c d : Nat) (h : d < 256) : refIt c d 8 = crcIt 8 (c ^^^ d) := by rw [refIt_is, Nat.div_eq_of_lt h, Nat.xor_zero]
theorem not32 (c : Nat) (h : c < 2 ^ 32) : 4294967295 - c = c ^^^ 4294967295 := by
  have e : (4294967295 : Nat) - c = 2 ^ 32 - (c + 1) := by omega
  apply Nat.eq_of_testBit_eq
  intro i
  rw [e, Nat.testBit_two_pow_sub_succ h, Nat.testBit_xor, show (4294967295 : Nat) = 2 ^ 32 - 1 by decide, Nat.testBit_two_pow_sub_one]
  by_cases hi : i < 32
  · simp [hi]
  · have : c.testBit i = false := Nat.testBit_lt_two_pow (Nat.lt_of_lt_of_le h (Nat.pow_le_pow_right (by decide) (by omega)))
    simp [hi, this]
theorem refCond (z d i : Nat) : (¬ z % 2 = d / 2 ^ i % 2 → ((z : Int) % 2 != ((d : Int) / 2 ^ i).tmod 2) = true) ∧ (z % 2 = d / 2 ^ i % 2 → ((z : Int) % 2 != ((d : Int) / 2 ^ i).tmod 2) = false) := by
  have e : ((d : Int) / 2 ^ i).tmod 2 = ((d / 2 ^ i % 2 : Nat) : Int) := by
    rw [show ((d : Int) / 2 ^ i) = ((d / 2 ^ i : Nat) : Int) by simp]
    generalize d / 2 ^ i = q
    rw [Int.tmod_eq_emod_of_nonneg (by omega)]; omega
  rw [e]
  generalize d / 2 ^ i = q
  constructor
  · intro h; exact bne_iff_ne.2 (by omega)
  · intro h; exact bne_eq_false_iff_eq.2 (by omega)
theorem bits_xor_i64_nat (a b : Nat) (ha : a < 2 ^ 32) (hb : b < 2 ^ 32) : bits .xor .i64 (a : Int) (b : Int) = ((a ^^^ b : Nat) : Int) := by
  have hx : a ^^^ b < 2 ^ 32 := Nat.xor_lt_two_pow ha hb
  have h1 : (BitVec.ofInt 64 (a : Int)).toNat = a := by
    rw [BitVec.ofInt_natCast, BitVec.toNat_ofNat]; exact Nat.mod_eq_of_lt (by omega)
  have h2 : (BitVec.ofInt 64 (b : Int)).toNat = b := by
    rw [BitVec.ofInt_natCast, BitVec.toNat_ofNat]; exact Nat.mod_eq_of_lt (by omega)
  show IntKind.i64.wrap ((BitVec.ofInt 64 (a : Int) ^^^ BitVec.ofInt 64 (b : Int)).toNat : Int) = _
  rw [BitVec.toNat_xor, h1, h2, IntKind.wrap_i64]
  omega
theorem refXor (z : Nat) (h : z < 2 ^ 32) : bits .xor .i64 ((z : Int) / 2) 2197175160 = (((z / 2) ^^^ 2197175160 : Nat) : Int) := by
  have := bits_xor_i64_nat (z / 2) 2197175160 (by omega) (by decide)
  simpa using this
end Pl

set_option maxRecDepth 100000 in
set_option maxHeartbeats 400000 in
theorem refSum_any (s : ByteArray) (w : World) (hs : s.size ≤ maxLen) :
    Calls Tryd.prog 40 #[.string s] w fun e w' => e = .returned (.int .i64 (Pl.crc s.data.toList)) ∧ w' = w := by
  unfold maxLen at hs
  go_enter Tryd.func40, Tryd.ntmps40
  go_wp2
  go_loop [3, 4, 5, 6] (fun n j _ _ => ∃ (k x : Nat), k ≤ s.size ∧ j = .int .i64 k ∧ n = .int .i64 x ∧ x < 2 ^ 32 ∧ Hid (x = Pl.crcAll 4294967295 (s.data.toList.take k))) (fun _ j _ _ => s.size - (intOf j).toNat)
  case atStart => exact ⟨0, 4294967295, by omega, rfl, rfl, by decide, rfl⟩
  case round =>
    obtain ⟨k, x, hk, rfl, rfl, hx, HX⟩ := hrel
    by_cases hlt : k < s.size
    · have hb : s[k].toNat < 256 := s[k].toNat_lt
      have HY : Hid (Pl.refIt x s[k].toNat 8 = Pl.crcAll 4294967295 (s.data.toList.take (k + 1))) := by
        show _ = _
        rw [Pl.refIt_8 _ _ hb]
        show Pl.crcByte x s[k] = _
        rw [take_snoc s k hlt, Pl.crcAll_snoc, ← HX.out]
      clear HX
      go_wp2
      go_loop [3, 5, 6] (fun n l _ => ∃ (i z : Nat), i ≤ 8 ∧ l = .int .i64 i ∧ n = .int .i64 z ∧ z < 2 ^ 32 ∧ Hid (z = Pl.refIt x s[k].toNat i)) (fun _ l _ => 8 - (intOf l).toNat)
      case atStart => exact ⟨0, x, by omega, rfl, rfl, hx, rfl⟩
      case round =>
        obtain ⟨i, z, hi, rfl, rfl, hz, HZ⟩ := hrel
        by_cases hil : i < 8
        · have he := Pl.refCond z s[k].toNat i
          by_cases hq : z % 2 = s[k].toNat / 2 ^ i % 2
          · have hc : ((z : Int) % 2 != ((s[k].toNat : Int) / 2 ^ i).tmod 2) = false := he.2 hq
            have HN : Hid (z / 2 = Pl.refIt x s[k].toNat (i + 1)) := by show _ = Pl.refBit _ _; rw [← HZ.out, Pl.refBit, if_pos hq]
            clear he HZ hq
            go_wp2
            go_round
            case rel => exact ⟨i + 1, z / 2, by omega, by go_num, by go_num, by omega, HN.out⟩
            case measure => simp [intOf]; omega
          · have hc : ((z : Int) % 2 != ((s[k].toNat : Int) / 2 ^ i).tmod 2) = true := he.1 hq
            have HN : Hid ((z / 2) ^^^ 2197175160 = Pl.refIt x s[k].toNat (i + 1)) := by show _ = Pl.refBit _ _; rw [← HZ.out, Pl.refBit, if_neg hq]
            have hx2 := Pl.refXor z hz
            clear he HZ hq
            go_wp2
            go_round
            case rel => exact ⟨i + 1, (z / 2) ^^^ 2197175160, by omega, by go_num, rfl, Nat.xor_lt_two_pow (by omega) (by decide), HN.out⟩
            case measure => simp [intOf]; omega
        · obtain rfl : i = 8 := by omega
          go_wp2
          go_round
          case rel => exact ⟨k + 1, z, by omega, by go_num, rfl, hz, by show z = _; rw [HZ.out]; exact HY.out⟩
          case measure => simp [intOf]; omega
    · go_wp2
      go_ret
      obtain rfl : k = s.size := by omega
      have h1 : x = Pl.crcAll 4294967295 s.data.toList := by rw [HX.out, List.take_of_length_le (by simp)]
      exact ⟨ret_int (by rw [Pl.crc, ← h1, ← Pl.not32 x hx]; omega), rfl⟩
end Go.Proofs.YtcidgfdiacehmaaDoor

/- The reference: varint, place. -/
namespace Go.Proofs.YtcidgfdiacehmaaDoor
open Go.RowKit Go.Lib

/-- string([]byte{n}). -/
theorem conv_one (W : World) (g c n : Nat) (h : n < 256) (hc : W.cell? ⟨g, 0, none⟩ = some (.int .u8 n)) :
    (convert 63 9 (.slice (some ⟨g, 0, none⟩) 1 c)).run Tryd.prog W = .ok (.string ⟨#[UInt8.ofNat n]⟩) W := by
  refine run_convert_bytes_back (P := Tryd.prog) W 63 9 5 ⟨g, 0, none⟩ c [UInt8.ofNat n] Tryd.underlying63 Tryd.underlying5 Tryd.underlying9 (fun j hj => ?_)
  obtain rfl : j = 0 := by simp at hj; exact hj
  show W.cell? ⟨g, 0, none⟩ = some (.int .u8 ((UInt8.ofNat n).toNat : Int))
  rw [hc, Pl.u8_ofNat n h]

set_option maxRecDepth 100000 in
set_option maxHeartbeats 400000 in
theorem refVarint_any (f : Nat) : ∀ (n : Nat) (w : World), f ≤ 9 → n < 128 ^ (f + 1) → n ≤ 9223372036854775807 →
    Calls Tryd.prog 36 #[.int .i64 n] w fun e w' => e = .returned (.string ⟨(Pl.varintF f n).toArray⟩) ∧ Below w.heap.size w w' := by
  induction f with
  | zero =>
    intro n w hf9 hf hn
    have hlt : n < 128 := by omega
    have hcv := conv_one (w.alloc (.cells #[.int .u8 n] 5)) w.heap.size 1 n (by omega) (World.cell?_alloc_new _ _ _ 0)
    have HV : Hid (Pl.varintF 0 n = [UInt8.ofNat n]) := Pl.varintF_small 0 n hlt
    go_enter Tryd.func36, Tryd.ntmps36
    go_wp2
    go_ret
    exact ⟨by rw [HV.out]; rfl, (Below.refl _ _).alloc (Nat.le_refl _) _⟩
  | succ f ih =>
    intro n w hf9 hf hn
    by_cases hlt : n < 128
    · have hcv := conv_one (w.alloc (.cells #[.int .u8 n] 5)) w.heap.size 1 n (by omega) (World.cell?_alloc_new _ _ _ 0)
      have HV : Hid (Pl.varintF (f + 1) n = [UInt8.ofNat n]) := Pl.varintF_small _ n hlt
      go_enter Tryd.func36, Tryd.ntmps36
      go_wp2
      go_ret
      exact ⟨by rw [HV.out]; rfl, (Below.refl _ _).alloc (Nat.le_refl _) _⟩
    · have HV : Hid (Pl.varintF (f + 1) n = UInt8.ofNat (n % 128 + 128) :: Pl.varintF f (n / 128)) := Pl.varintF_big f n hlt
      have C : Hid (∀ W : World, Calls Tryd.prog 36 #[.int .i64 ((n : Int) / 128)] W fun e w' => e = .returned (.string ⟨(Pl.varintF f (n / 128)).toArray⟩) ∧ Below W.heap.size W w') := fun W => ih (n / 128) W (by omega) (by rw [Nat.pow_succ] at hf; omega) (by omega)
      have hx : IntKind.u8.wrap (IntKind.i64.wrap (128 + (n : Int).tmod 128)) = ((n % 128 + 128 : Nat) : Int) := by
        rw [Int.tmod_eq_emod_of_nonneg (by omega), IntKind.wrap_i64, IntKind.wrap_u8]; omega
      have hcv : ∀ (W : World) (g : Nat), W.cell? ⟨g, 0, none⟩ = some (.int .u8 (IntKind.u8.wrap (IntKind.i64.wrap (128 + (n : Int).tmod 128)))) → (convert 63 9 (.slice (some ⟨g, 0, none⟩) 1 1)).run Tryd.prog W = .ok (.string ⟨#[UInt8.ofNat (n % 128 + 128)]⟩) W :=
        fun W g h => conv_one W g 1 (n % 128 + 128) (by omega) (by rw [h, hx])
      have hdv : IntKind.i64.wrap ((n : Int) / 128) = (n : Int) / 128 := by rw [IntKind.wrap_i64]; omega
      rw [← hdv] at C
      clear hx hdv
      have hyl := Pl.varintF_length f (n / 128)
      generalize Pl.varintF f (n / 128) = ys at *
      have hs1 : ¬ 9223372036854775807 < 1 + ys.length := by omega
      have hs2 : 1 + ys.length ≤ 9223372036854775807 := by omega
      generalize UInt8.ofNat (n % 128 + 128) = bt at *
      have HA : Hid ((⟨#[bt]⟩ : ByteArray) ++ ⟨ys.toArray⟩ = ⟨(bt :: ys).toArray⟩) := ByteArray.mk_append_mk [bt] ys
      clear ih hf hyl
      go_enter Tryd.func36, Tryd.ntmps36
      go_wp2
      as_aux_lemma =>
        go_region_with (first | (go_at_call 36; refine (C.out _).mono ?_; rintro e w2 ⟨rfl, hb2⟩; first | (have q0 : w2.cell? ⟨w.heap.size, 0, none⟩ = some (.int .u8 (IntKind.u8.wrap (IntKind.i64.wrap (128 + (n : Int).tmod 128)))) := (hb2.cell (p := ⟨w.heap.size, 0, none⟩) (by show w.heap.size < (w.alloc _).heap.size; simp)).trans (World.cell?_alloc_new _ _ _ 0)) | skip))
        all_goals
          have HB2 := hide hb2
          clear hb2
          go_wp2
          go_ret
          refine ⟨by rw [HV.out, ← HA.out]; rfl, ?_⟩
          first
          | exact ((Below.refl _ _).drew.trans (HB2.out.mono (Nat.le_refl _))).alloc HB2.out.size _
          | exact ((Below.refl _ _).alloc (Nat.le_refl _) _).drew.trans (HB2.out.mono (by show w.heap.size ≤ (w.alloc _).heap.size; simp))
end Go.Proofs.YtcidgfdiacehmaaDoor

/- The reference: Bits, as texts of 0 and 1. -/
namespace Go.Proofs.YtcidgfdiacehmaaDoor
open Go.RowKit Go.Lib

/-- Bits as a text. -/
def zd (b : Bool) : UInt8 := if b then 49 else 48
def zo (l : List Bool) : List UInt8 := l.map zd
def zoS (l : List Bool) : ByteArray := ⟨(zo l).toArray⟩
theorem zo_length (l : List Bool) : (zo l).length = l.length := by simp [zo]
theorem zoS_append (a b : List Bool) : zoS a ++ zoS b = zoS (a ++ b) := by
  unfold zoS
  rw [ByteArray.mk_append_mk]; simp [zo]
theorem zoS_size (l : List Bool) : (zoS l).size = l.length := by
  show (zo l).toArray.size = _
  simp [zo]

/-- Bytes in block g, free to be written. -/
structure RB (w : World) (g : Nat) (l : List UInt8) : Prop where
  cell : ∀ j, j < l.length → w.cell? ⟨g, j, none⟩ = some (.int .u8 ((l.getD j 0).toNat : Int))
  fr : ∀ j, j < l.length → w.frozen? ⟨g, j, none⟩ = false
theorem RB.set {w : World} {g : Nat} {l : List UInt8} (h : RB w g l) (i : Nat) (hi : i < l.length) (x : UInt8) : RB (w.setCell ⟨g, i, none⟩ (.int .u8 (x.toNat : Int))) g (l.set i x) := by
  refine ⟨fun j hj => ?_, fun j hj => ?_⟩
  · rw [List.length_set] at hj
    by_cases e : j = i
    · subst e
      rw [World.cell?_setCell_same _ _ _ (h.cell j hj), List.getD_eq_getElem?_getD, List.getElem?_set, if_pos rfl, if_pos hj]; rfl
    · rw [World.cell?_setCell_other _ _ _ _ (fun y => e (congrArg Addr.off y).symm), h.cell j hj, List.getD_eq_getElem?_getD, List.getD_eq_getElem?_getD, List.getElem?_set, if_neg (fun y => e y.symm)]
  · rw [List.length_set] at hj
    rw [World.frozen?_setCell]; exact h.fr j hj
theorem RB.drew {w : World} {g : Nat} {l : List UInt8} (h : RB w g l) : RB w.drew g l := ⟨h.cell, h.fr⟩

/-- What stands in Bits' row behind j digits. -/
def dig (n W j : Nat) : List UInt8 := List.replicate (W - j) 0 ++ zo (Pl.bitsOf n j)
theorem dig_length (n W j : Nat) (h : j ≤ W) : (dig n W j).length = W := by simp [dig, zo_length, Pl.bitsOf_length]; omega
theorem dig_succ (n W j : Nat) (h : j < W) : dig n W (j + 1) = (dig n W j).set (W - j - 1) (zd (n / 2 ^ j % 2 == 1)) := by
  obtain ⟨k, rfl⟩ : ∃ k, W = j + 1 + k := ⟨W - j - 1, by omega⟩
  unfold dig
  rw [show j + 1 + k - (j + 1) = k by omega, show j + 1 + k - j = k + 1 by omega, show k + 1 - 1 = k by omega, Pl.bitsOf, List.replicate_succ', List.append_assoc, List.set_append_right _ _ (by simp)]
  simp [zo]
theorem zd_bit (x : Nat) : ((zd (x % 2 == 1)).toNat : Int) = 48 + (x : Int) % 2 := by
  rcases Nat.mod_two_eq_zero_or_one x with h | h <;> simp [zd, h] <;> omega

set_option maxRecDepth 100000 in
set_option maxHeartbeats 400000 in
theorem refBits_any (n W : Nat) (w : World) (hn : n ≤ 18446744073709551615) (hW : W ≤ 64) :
    Calls Tryd.prog 53 #[.int .u64 n, .int .i64 W] w fun e w' => e = .returned (.string (zoS (Pl.bitsOf n W))) ∧ Below w.heap.size w w' := by
  obtain ⟨i0, hi, hz0, hz1, hz2⟩ := info_parts Tryd.infoU8
  obtain ⟨w0, hmk, HR0, HB0⟩ : ∃ w0, (Instr.makeSlice 63 (.int .i64 W) (.int .i64 W)).run Tryd.prog w = .ok (.slice (some ⟨w.heap.size, 0, none⟩) W W) w0 ∧ Hid (RB w0 w.heap.size (dig n W 0)) ∧ Hid (Below w.heap.size w w0) := by
    have h := run_makeSlice (P := Tryd.prog) w 63 5 i0 (.int .u8 0) Tryd.underlying63 hi hz0 .i64 .i64 W W (by omega) (by omega) (by rw [hz1]; omega) (by rw [hz2]; omega) (by omega)
    rw [Int.toNat_natCast, hz1, Nat.mul_one] at h
    have hcell : ∀ j, j < W → (madeCells (Value.int .u8 0).cells W)[j]? = some (.int .u8 0) := fun j hj => by
      have e := toList_madeCells_one (.int .u8 0) W
      have e2 : (madeCells (Value.int .u8 0).cells W).toList[j]? = some (.int .u8 0) := by
        show (madeCells #[Value.int .u8 0] W).toList[j]? = _
        rw [e, List.getElem?_replicate, if_pos hj]
      simpa using e2
    refine ⟨_, h, ?_, (Below.refl _ _).alloc (Nat.le_refl _) _⟩
    refine ⟨fun j hj => ?_, fun j hj => ?_⟩
    · rw [dig_length n W 0 (by omega)] at hj
      rw [World.cell?_alloc_new, hcell j hj]
      simp [dig, zo, Pl.bitsOf, List.getD_eq_getElem?_getD, hj]
    · exact World.frozen?_alloc_new _ _ _ _
  clear hz0 hz1 hz2 hi
  go_enter Tryd.func53, Tryd.ntmps53
  go_wp2
  go_loopw [0, 6] (fun m i wr => ∃ j : Nat, j ≤ W ∧ m = .int .u64 ((n / 2 ^ j : Nat) : Int) ∧ i = .int .i64 ((W : Int) - 1 - j) ∧ RB wr w.heap.size (dig n W j) ∧ Below w.heap.size w wr) (fun _ i _ => (intOf i + 1).toNat)
  case atStart => exact ⟨0, Nat.zero_le _, by simp, by simp, HR0.out, HB0.out⟩
  case round =>
    obtain ⟨j, hj, rfl, rfl, hR, hB⟩ := hrel
    have HB := hide hB
    have hl := dig_length n W j hj
    clear HR0 HB0 hmk hB
    by_cases hlt : j < W
    · have hc := hR.cell (W - j - 1) (by omega)
      have hf := hR.fr (W - j - 1) (by omega)
      have hR2 := (hR.set (W - j - 1) (by omega) (zd (n / 2 ^ j % 2 == 1)))
      rw [← dig_succ n W j hlt, zd_bit] at hR2
      have hq : n / 2 ^ j ≤ 18446744073709551615 := Nat.le_trans (Nat.div_le_self _ _) hn
      have hd : n / 2 ^ j / 2 = n / 2 ^ (j + 1) := by rw [Nat.div_div_eq_div_mul, Nat.pow_succ]
      have HR2 := hide hR2
      have HD := hide hd
      clear hR hR2 hd hl
      generalize n / 2 ^ j = q at *
      have h1 : (0 : Int) ≤ (W : Int) - 1 - j := by omega
      have h2 : (W : Int) - 1 - j < W := by omega
      have h3 : ((W : Int) - 1 - j).toNat = W - j - 1 := by omega
      have h4 : IntKind.i64.wrap ((W : Int) - 1 - j) = (W : Int) - 1 - j := by rw [IntKind.wrap_i64]; omega
      go_wp2
      go_roundw
      case rel => exact ⟨j + 1, by omega, val_int (by rw [← HD.out]; omega), val_int (by omega), HR2.out, HB.out.setCell (p := ⟨w.heap.size, W - j - 1, none⟩) (Nat.le_refl _) _⟩
      case measure => simp [intOf]; omega
    · have hje : j = W := by omega
      have hcv := run_convert_bytes_back (P := Tryd.prog) wr 63 9 5 ⟨w.heap.size, 0, none⟩ W (dig n W j) Tryd.underlying63 Tryd.underlying5 Tryd.underlying9 (fun i hi => by
        have := hR.cell i hi
        rw [List.getD_eq_getElem?_getD, List.getElem?_eq_getElem hi] at this
        have e : (⟨w.heap.size, 0, none⟩ : Addr).add i = ⟨w.heap.size, i, none⟩ := by simp [Addr.add]; exact fun h => h.symm
        rw [e]; exact this)
      rw [hl] at hcv
      have HE : Hid ((⟨(dig n W j).toArray⟩ : ByteArray) = zoS (Pl.bitsOf n W)) := by
        show _ = _
        rw [hje]; simp [dig, zoS]
      have h1 : ¬ (0 : Int) ≤ (W : Int) - 1 - j := by omega
      clear hR hl hje
      generalize (dig n W j) = dg at *
      go_wp2
      go_ret
      exact ⟨by rw [← HE.out]; rfl, HB.out⟩
end Go.Proofs.YtcidgfdiacehmaaDoor

/- The reference: step. -/
namespace Go.Proofs.YtcidgfdiacehmaaDoor
open Go.RowKit Go.Lib

theorem refBits_int (X Y : Int) (n W : Nat) (w : World) (hX : X = n) (hY : Y = W) (hn : n ≤ 18446744073709551615) (hW : W ≤ 64) :
    Calls Tryd.prog 53 #[.int .u64 X, .int .i64 Y] w fun e w' => e = .returned (.string (zoS (Pl.bitsOf n W))) ∧ Below w.heap.size w w' := by
  subst hX hY
  exact refBits_any n W w hn hW

/-- How a difference of differences is told. -/
def stepBits (e : Nat) : List Bool := markOf (stepWay e) 4 ++ Pl.bitsOf (add64 e (stepShift (stepWay e))) (stepWidth (stepWay e))
theorem timeBits_step (t s x : Nat) : timeBits t s x = stepBits (sub64 (sub64 x t) s) := rfl

theorem step0 {e : Nat} (he : e ≤ 18446744073709551615) (hz : IntKind.i64.wrap (e : Int) = 0) : stepBits e = [false] := by
  have h0 : e = 0 := by rw [IntKind.wrap_i64] at hz; omega
  subst h0; decide
theorem way_ge {e : Nat} (he : e ≤ 18446744073709551615) {z : Int} (hz : IntKind.i64.wrap (e : Int) = z) (h0 : z ≠ 0) : 1 ≤ (e : Int) ∧ ∀ s W : Int, 0 ≤ s → s < 4096 → W ≤ 4096 → (IntKind.u64.wrap ((e : Int) + s) < W ↔ (- s ≤ z ∧ z < W - s)) := by
  rw [IntKind.wrap_i64] at hz
  refine ⟨by omega, fun s W h1 h2 h3 => ?_⟩
  rw [IntKind.wrap_u64]
  omega
theorem step1 {e : Nat} (he : e ≤ 18446744073709551615) {z : Int} (hz : IntKind.i64.wrap (e : Int) = z) (h0 : z ≠ 0) (h1 : -63 ≤ z) (h2 : z ≤ 64) : stepBits e = [true, false] ++ Pl.bitsOf (add64 e 63) 7 := by
  obtain ⟨a, b⟩ := way_ge he hz h0
  have hw := way1 he a ((b 63 128 (by omega) (by omega) (by omega)).2 ⟨h1, by omega⟩)
  unfold stepBits; rw [hw]; rfl
theorem step2 {e : Nat} (he : e ≤ 18446744073709551615) {z : Int} (hz : IntKind.i64.wrap (e : Int) = z) (h0 : z ≠ 0) (_hn : ¬ (-63 ≤ z ∧ z ≤ 64)) (h1 : -255 ≤ z) (h2 : z ≤ 256) : stepBits e = [true, true, false] ++ Pl.bitsOf (add64 e 255) 9 := by
  obtain ⟨a, b⟩ := way_ge he hz h0
  have hw := way2 he a (Int.not_lt.1 fun h => by have := (b 63 128 (by omega) (by omega) (by omega)).1 h; omega) ((b 255 512 (by omega) (by omega) (by omega)).2 ⟨h1, by omega⟩)
  unfold stepBits; rw [hw]; rfl
theorem step3 {e : Nat} (he : e ≤ 18446744073709551615) {z : Int} (hz : IntKind.i64.wrap (e : Int) = z) (h0 : z ≠ 0) (_hn : ¬ (-63 ≤ z ∧ z ≤ 64)) (_hm : ¬ (-255 ≤ z ∧ z ≤ 256)) (h1 : -2047 ≤ z) (h2 : z ≤ 2048) : stepBits e = [true, true, true, false] ++ Pl.bitsOf (add64 e 2047) 12 := by
  obtain ⟨a, b⟩ := way_ge he hz h0
  have hw := way3 he a (Int.not_lt.1 fun h => by have := (b 63 128 (by omega) (by omega) (by omega)).1 h; omega) (Int.not_lt.1 fun h => by have := (b 255 512 (by omega) (by omega) (by omega)).1 h; omega) ((b 2047 4096 (by omega) (by omega) (by omega)).2 ⟨h1, by omega⟩)
  unfold stepBits; rw [hw]; rfl
theorem step4 {e : Nat} (he : e ≤ 18446744073709551615) {z : Int} (hz : IntKind.i64.wrap (e : Int) = z) (h0 : z ≠ 0) (_hn : ¬ (-63 ≤ z ∧ z ≤ 64)) (_hm : ¬ (-255 ≤ z ∧ z ≤ 256)) (hk : ¬ (-2047 ≤ z ∧ z ≤ 2048)) : stepBits e = [true, true, true, true] ++ Pl.bitsOf e 64 := by
  obtain ⟨a, b⟩ := way_ge he hz h0
  have hw := way4 he a (Int.not_lt.1 fun h => by have := (b 63 128 (by omega) (by omega) (by omega)).1 h; omega) (Int.not_lt.1 fun h => by have := (b 255 512 (by omega) (by omega) (by omega)).1 h; omega) (Int.not_lt.1 fun h => by have := (b 2047 4096 (by omega) (by omega) (by omega)).1 h; omega)
  have ha : add64 e 0 = e := by unfold add64; omega
  unfold stepBits; rw [hw]; show markOf 4 4 ++ Pl.bitsOf (add64 e 0) 64 = _; rw [ha]; rfl
theorem add_is {e s : Nat} (_he : e ≤ 18446744073709551615) {z : Int} (hz : IntKind.i64.wrap (e : Int) = z) (h1 : 0 ≤ z + s) (h2 : z + s < 5000) : z + s = (add64 e s : Int) := by
  rw [IntKind.wrap_i64] at hz; unfold add64; omega

set_option maxRecDepth 100000 in
set_option maxHeartbeats 400000 in
theorem refStep_any (e : Nat) (w : World) (he : e ≤ 18446744073709551615) :
    Calls Tryd.prog 54 #[.int .u64 e] w fun r w' => r = .returned (.string (zoS (stepBits e))) ∧ Below w.heap.size w w' := by
  obtain ⟨z, hz⟩ : ∃ z, IntKind.i64.wrap (e : Int) = z := ⟨_, rfl⟩
  have hzb : -9223372036854775808 ≤ z ∧ z ≤ 9223372036854775807 := by rw [IntKind.wrap_i64] at hz; omega
  obtain ⟨hzb1, hzb2⟩ := hzb
  by_cases h0 : z = 0
  · subst h0
    have HE := hide (step0 he hz)
    go_enter Tryd.func54, Tryd.ntmps54
    go_wp2
    go_ret
    exact ⟨by rw [HE.out]; rfl, Below.refl _ _⟩
  by_cases h1 : -63 ≤ z ∧ z ≤ 64
  · obtain ⟨g1, g2⟩ := h1
    have HE := hide (step1 he hz h0 g1 g2)
    have HA := hide (add_is (s := 63) he hz (by omega) (by omega))
    have hl : (zoS (Pl.bitsOf (add64 e 63) 7)).size = 7 := by rw [zoS_size, Pl.bitsOf_length]
    have HZ := hide (zoS_append [true, false] (Pl.bitsOf (add64 e 63) 7))
    have C : Hid (∀ (X : Int) (W : World), X = z + 63 → Calls Tryd.prog 53 #[.int .u64 X, .int .i64 7] W fun r w' => r = .returned (.string (zoS (Pl.bitsOf (add64 e 63) 7))) ∧ Below W.heap.size W w') := fun X W hX => refBits_int X 7 (add64 e 63) 7 W (hX.trans HA.out) rfl (add64_le _ _) (by decide)
    generalize zoS (Pl.bitsOf (add64 e 63) 7) = sb at *
    have hs1 : ¬ 9223372036854775807 < 2 + sb.size := by omega
    clear hl HA
    go_enter Tryd.func54, Tryd.ntmps54
    go_wp2_with fail
    all_goals
      refine (C.out _ _ (by omega)).mono ?_
      rintro r w2 ⟨rfl, hb2⟩
      have HB2 := hide hb2
      clear hb2
      go_wp2
      go_ret
      exact ⟨by rw [HE.out, ← HZ.out]; rfl, HB2.out⟩
  by_cases h2 : -255 ≤ z ∧ z ≤ 256
  · obtain ⟨g1, g2⟩ := h2
    have HE := hide (step2 he hz h0 h1 g1 g2)
    have HA := hide (add_is (s := 255) he hz (by omega) (by omega))
    have hl : (zoS (Pl.bitsOf (add64 e 255) 9)).size = 9 := by rw [zoS_size, Pl.bitsOf_length]
    have HZ := hide (zoS_append [true, true, false] (Pl.bitsOf (add64 e 255) 9))
    have C : Hid (∀ (X : Int) (W : World), X = z + 255 → Calls Tryd.prog 53 #[.int .u64 X, .int .i64 9] W fun r w' => r = .returned (.string (zoS (Pl.bitsOf (add64 e 255) 9))) ∧ Below W.heap.size W w') := fun X W hX => refBits_int X 9 (add64 e 255) 9 W (hX.trans HA.out) rfl (add64_le _ _) (by decide)
    generalize zoS (Pl.bitsOf (add64 e 255) 9) = sb at *
    have hs1 : ¬ 9223372036854775807 < 3 + sb.size := by omega
    clear hl HA
    go_enter Tryd.func54, Tryd.ntmps54
    go_wp2_with fail
    all_goals
      refine (C.out _ _ (by omega)).mono ?_
      rintro r w2 ⟨rfl, hb2⟩
      have HB2 := hide hb2
      clear hb2
      go_wp2
      go_ret
      exact ⟨by rw [HE.out, ← HZ.out]; rfl, HB2.out⟩
  by_cases h3 : -2047 ≤ z ∧ z ≤ 2048
  · obtain ⟨g1, g2⟩ := h3
    have HE := hide (step3 he hz h0 h1 h2 g1 g2)
    have HA := hide (add_is (s := 2047) he hz (by omega) (by omega))
    have hl : (zoS (Pl.bitsOf (add64 e 2047) 12)).size = 12 := by rw [zoS_size, Pl.bitsOf_length]
    have HZ := hide (zoS_append [true, true, true, false] (Pl.bitsOf (add64 e 2047) 12))
    have C : Hid (∀ (X : Int) (W : World), X = z + 2047 → Calls Tryd.prog 53 #[.int .u64 X, .int .i64 12] W fun r w' => r = .returned (.string (zoS (Pl.bitsOf (add64 e 2047) 12))) ∧ Below W.heap.size W w') := fun X W hX => refBits_int X 12 (add64 e 2047) 12 W (hX.trans HA.out) rfl (add64_le _ _) (by decide)
    generalize zoS (Pl.bitsOf (add64 e 2047) 12) = sb at *
    have hs1 : ¬ 9223372036854775807 < 4 + sb.size := by omega
    clear hl HA
    go_enter Tryd.func54, Tryd.ntmps54
    go_wp2_with fail
    all_goals
      refine (C.out _ _ (by omega)).mono ?_
      rintro r w2 ⟨rfl, hb2⟩
      have HB2 := hide hb2
      clear hb2
      go_wp2
      go_ret
      exact ⟨by rw [HE.out, ← HZ.out]; rfl, HB2.out⟩
  · have HE := hide (step4 he hz h0 h1 h2 h3)
    have hl : (zoS (Pl.bitsOf (e) 64)).size = 64 := by rw [zoS_size, Pl.bitsOf_length]
    have HZ := hide (zoS_append [true, true, true, true] (Pl.bitsOf (e) 64))
    have C : Hid (∀ (X : Int) (W : World), X = e → Calls Tryd.prog 53 #[.int .u64 X, .int .i64 64] W fun r w' => r = .returned (.string (zoS (Pl.bitsOf (e) 64))) ∧ Below W.heap.size W w') := fun X W hX => refBits_int X 64 (e) 64 W (hX) rfl (he) (by decide)
    generalize zoS (Pl.bitsOf (e) 64) = sb at *
    have hs1 : ¬ 9223372036854775807 < 4 + sb.size := by omega
    clear hl
    go_enter Tryd.func54, Tryd.ntmps54
    go_wp2_with fail
    all_goals
      refine (C.out _ _ (by omega)).mono ?_
      rintro r w2 ⟨rfl, hb2⟩
      have HB2 := hide hb2
      clear hb2
      go_wp2
      go_ret
      exact ⟨by rw [HE.out, ← HZ.out]; rfl, HB2.out⟩
end Go.Proofs.YtcidgfdiacehmaaDoor

/- The reference: count. -/
namespace Go.Proofs.YtcidgfdiacehmaaDoor
open Go.RowKit Go.Lib

/-- Bit i of 64, the highest first. -/
def hib (X i : Nat) : Bool := X / 2 ^ (63 - i) % 2 == 1
theorem bitsOf_get (n : Nat) : ∀ (k i : Nat), i < k → (Pl.bitsOf n k)[i]? = some (n / 2 ^ (k - 1 - i) % 2 == 1)
  | 0, i, h => by omega
  | k + 1, 0, _ => by simp [Pl.bitsOf]
  | k + 1, i + 1, h => by
    rw [Pl.bitsOf, List.getElem?_cons_succ, bitsOf_get n k i (by omega), show k + 1 - 1 - (i + 1) = k - 1 - i by omega]
theorem zoS_get (l : List Bool) (i : Nat) (h : i < (zoS l).size) (b : Bool) (hb : l[i]? = some b) : ((zoS l)[i]).toNat = if b then 49 else 48 := by
  have h2 : i < l.length := by rw [zoS_size] at h; exact h
  have e : (zoS l)[i] = (zo l).toArray[i]'(by simpa [zo] using h2) := rfl
  rw [List.getElem?_eq_getElem h2] at hb
  cases hb
  rw [e]
  simp only [List.getElem_toArray, zo, List.getElem_map]
  cases l[i] <;> rfl
theorem hib_get (X i : Nat) (h : i < (zoS (Pl.bitsOf X 64)).size) : ((zoS (Pl.bitsOf X 64))[i]).toNat = if hib X i then 49 else 48 :=
  zoS_get _ i h _ (bitsOf_get X 64 i (by rw [zoS_size, Pl.bitsOf_length] at h; exact h))

theorem lz_ahead (X i : Nat) (hX : X < 2 ^ 64) (h : i < lz X) : hib X i = false := by
  have h1 : X < 2 ^ Lib.bitLen X := bitLenAux_lt 64 X hX
  have h2 : Lib.bitLen X ≤ 64 := bitLenAux_le 64 X
  have h3 : X < 2 ^ (63 - i) := Nat.lt_of_lt_of_le h1 (Nat.pow_le_pow_right (by decide) (by unfold lz at h; omega))
  simp [hib, Nat.div_eq_of_lt h3]
theorem lz_at (X : Nat) (h0 : X ≠ 0) (hX : X < 2 ^ 64) : lz X < 64 ∧ hib X (lz X) = true := by
  obtain ⟨h1, h2, h3⟩ := Lib.bitLenAux_bounds 64 X hX h0
  have h4 : Lib.bitLen X ≤ 64 := bitLenAux_le 64 X
  have h5 : Lib.bitLen X = Lib.bitLenAux 64 X := rfl
  refine ⟨by unfold lz; omega, ?_⟩
  have e : 63 - lz X = Lib.bitLenAux 64 X - 1 := by unfold lz; omega
  unfold hib
  rw [e]
  obtain ⟨L, hL⟩ : ∃ L, Lib.bitLenAux 64 X = L + 1 := ⟨_, (Nat.sub_add_cancel h1).symm⟩
  rw [hL] at h2 h3 ⊢
  simp only [Nat.add_sub_cancel] at h2 ⊢
  have h6 : X / 2 ^ L = 1 := by
    apply Nat.div_eq_of_lt_le
    · simpa using h2
    · rw [Nat.pow_succ] at h3; omega
  rw [h6]; rfl
theorem tz_spec (X : Nat) (h0 : X ≠ 0) (hX : X < 2 ^ 64) : ∃ m, X = 2 ^ tz X * m ∧ m % 2 = 1 := by
  obtain ⟨m, hm, _⟩ := Lib.ctzFrom_spec 64 X (by omega) hX
  have e : tz X = Lib.ctzFrom 64 X := by unfold tz Lib.ctz; rw [if_neg h0]
  rw [e]
  exact ⟨2 * m + 1, hm, by omega⟩
theorem tz_behind (X i : Nat) (h0 : X ≠ 0) (hX : X < 2 ^ 64) (h : i < tz X) : hib X (63 - i) = false := by
  obtain ⟨m, hm, _⟩ := tz_spec X h0 hX
  have h1 := lz_tz X h0 hX
  unfold hib
  rw [show 63 - (63 - i) = i by omega]
  obtain ⟨d, hd⟩ : ∃ d, tz X = i + 1 + d := ⟨tz X - i - 1, by omega⟩
  rw [hd] at hm
  have h2 : X / 2 ^ i = 2 * (2 ^ d * m) := by
    rw [hm, show i + 1 + d = i + (d + 1) by omega, Nat.pow_add, Nat.mul_assoc, Nat.mul_div_cancel_left _ (Nat.two_pow_pos i), Nat.pow_succ]
    rw [Nat.mul_comm (2 ^ d) 2, Nat.mul_assoc]
  rw [h2]; simp
theorem tz_at (X : Nat) (h0 : X ≠ 0) (hX : X < 2 ^ 64) : tz X < 64 ∧ hib X (63 - tz X) = true := by
  obtain ⟨m, hm, h2⟩ := tz_spec X h0 hX
  have h1 := lz_tz X h0 hX
  refine ⟨by omega, ?_⟩
  unfold hib
  rw [show 63 - (63 - tz X) = tz X by omega]
  have h3 : X / 2 ^ tz X = m := by
    generalize tz X = t at *
    rw [hm, Nat.mul_div_cancel_left _ (Nat.two_pow_pos t)]
  rw [h3, h2]; rfl

set_option maxRecDepth 100000 in
set_option maxHeartbeats 400000 in
theorem count_at (x : ByteArray) (f : Nat → Bool) (A B : Nat) (w : World) (hx : x.size = 64) (hf : ∀ k (h : k < x.size), x[k].toNat = if f k then 49 else 48)
    (ha1 : ∀ i, i < A → f i = false) (ha2 : f A = true) (hA : A < 64) (hb1 : ∀ i, i < B → f (63 - i) = false) (hb2 : f (63 - B) = true) (hB : B < 64) :
    Calls Tryd.prog 55 #[.string x] w fun e w' => e = .returned (.tuple #[.int .i64 A, .int .i64 B]) ∧ w' = w := by
  have HF := hide hf
  have HA1 := hide ha1
  have HA2 := hide ha2
  have HB1 := hide hb1
  have HB2 := hide hb2
  clear hf ha1 ha2 hb1 hb2
  go_enter Tryd.func55, Tryd.ntmps55
  go_wp2
  go_loop [4] (fun i => ∃ k : Nat, k ≤ A ∧ i = .int .i64 k) (fun i => A - (intOf i).toNat)
  case atStart => exact ⟨0, by omega, rfl⟩
  case round =>
    obtain ⟨k, hk, rfl⟩ := hrel
    have hks : k < x.size := by omega
    have hv := HF.out k hks
    by_cases hlt : k < A
    · rw [HA1.out k hlt] at hv
      simp only [Bool.false_eq_true, if_false] at hv
      go_wp2
      go_round
      case rel => exact ⟨k + 1, by omega, by go_num⟩
      case measure => simp [intOf]; omega
    · obtain rfl : k = A := by omega
      rw [HA2.out] at hv
      simp only [if_true] at hv
      go_wp2
      go_loop [5] (fun i => ∃ b : Nat, b ≤ B ∧ i = .int .i64 b) (fun i => B - (intOf i).toNat)
      case atStart => exact ⟨0, by omega, rfl⟩
      case round =>
        obtain ⟨b, hb, rfl⟩ := hrel
        have hbs : 63 - b < x.size := by omega
        have hu := HF.out (63 - b) hbs
        have e1 : (0 : Int) ≤ 64 - 1 - (b : Int) := by omega
        have e2 : (64 : Int) - 1 - (b : Int) < 64 := by omega
        have e3 : ((64 : Int) - 1 - (b : Int)).toNat = 63 - b := by omega
        by_cases hlt2 : b < B
        · rw [HB1.out b hlt2] at hu
          simp only [Bool.false_eq_true, if_false] at hu
          go_wp2
          go_round
          case rel => exact ⟨b + 1, by omega, by go_num⟩
          case measure => simp [intOf]; omega
        · obtain rfl : b = B := by omega
          rw [HB2.out] at hu
          simp only [if_true] at hu
          go_wp2
          go_ret2
          exact ⟨rfl, rfl⟩

theorem count_any (X : Nat) (w : World) (h0 : X ≠ 0) (hX : X < 2 ^ 64) :
    Calls Tryd.prog 55 #[.string (zoS (Pl.bitsOf X 64))] w fun e w' => e = .returned (.tuple #[.int .i64 (lz X), .int .i64 (tz X)]) ∧ w' = w :=
  count_at _ (hib X) (lz X) (tz X) w (by rw [zoS_size, Pl.bitsOf_length]) (fun k h => hib_get X k h) (fun i h => lz_ahead X i hX h) (lz_at X h0 hX).2 (lz_at X h0 hX).1 (fun i h => tz_behind X i h0 hX h) (tz_at X h0 hX).2 (tz_at X h0 hX).1
end Go.Proofs.YtcidgfdiacehmaaDoor

/- The reference: filled. -/
namespace Go.Proofs.YtcidgfdiacehmaaDoor
open Go.RowKit Go.Lib

/-- The number of the first j of some bits. -/
def nb (f : Nat → Bool) : Nat → Nat
  | 0 => 0
  | j + 1 => 2 * nb f j + (f j).toNat
theorem nb_lt (f : Nat → Bool) : ∀ j, nb f j < 2 ^ j
  | 0 => by simp [nb]
  | j + 1 => by
    have := nb_lt f j
    have h : (f j).toNat ≤ 1 := by cases f j <;> decide
    rw [nb, Nat.pow_succ]; omega
theorem nb_8 (f : Nat → Bool) : nb f 8 = Pl.byteOf f := by
  simp only [nb, Pl.byteOf]; omega
theorem below_grownOwn {base : Nat} {w wr w1 : World} {o : Value} {xs : List UInt8} {ob : Obj} (hB : Below base w wr) (hb : Bytes base wr o xs) (hs : base ≤ wr.heap.size) (hg : (wr.alloc ob).grownBy w1 o.ownBlock) : Below base w w1 :=
  (hB.alloc hs ob).grown hg (by simp; omega) (fun k hk => Nat.le_of_not_lt fun h => own_ne hb h hk)

set_option maxRecDepth 100000 in
set_option maxHeartbeats 400000 in
theorem filled_any (l : List Bool) (w : World) (hl : l.length ≤ 100000) (hl0 : 0 < l.length) :
    Calls Tryd.prog 38 #[.string (zoS l)] w fun e w' => e = .returned (.string ⟨(Pl.pack l).toArray⟩) ∧ Below w.heap.size w w' := by
  obtain ⟨i0, hi, hz0, hz1, hz2⟩ := info_parts Tryd.infoU8
  generalize hs0 : zoS l = s0
  go_enter Tryd.func38, Tryd.ntmps38
  go_wp2
  go_loop [0] (fun s => ∃ (j : Nat) (sb : ByteArray), j ≤ 7 ∧ l.length + j ≤ (l.length + 7) / 8 * 8 ∧ s = .string sb ∧ sb.size = l.length + j ∧ Hid (sb = zoS (l ++ List.replicate j false))) (fun s => (l.length + 7) / 8 * 8 - (match s with | .string sb => sb.size | _ => 0))
  case atStart => exact ⟨0, s0, by omega, by omega, rfl, by rw [← hs0, zoS_size]; rfl, by show _ = _; rw [← hs0]; simp⟩
  case round =>
    obtain ⟨j, sb, hj, hj2, rfl, hsz, HS⟩ := hrel
    by_cases hm : (l.length + j) % 8 = 0
    · have e1 : (((l.length : Int) + (j : Int)) % 8 != 0) = false := by simp; omega
      obtain ⟨M, hM⟩ : ∃ M, M = (l.length + 7) / 8 := ⟨_, rfl⟩
      have hsM : sb.size = 8 * M := by omega
      have hpl : (Pl.pack l).length = M := by rw [Pl.pack_length, hM]
      have HG : Hid (∀ i (h : i < sb.size), sb[i].toNat = if l.getD i false then 49 else 48) := by
        intro i h
        have hS := HS.out
        subst hS
        refine zoS_get _ i h _ ?_
        rw [zoS_size] at h
        rw [List.getElem?_eq_getElem h]
        by_cases hil : i < l.length
        · rw [List.getElem_append_left hil, List.getD_eq_getElem?_getD, List.getElem?_eq_getElem hil]; rfl
        · rw [List.getElem_append_right (by omega), List.getElem_replicate, List.getD_eq_getElem?_getD, List.getElem?_eq_none (by omega)]; rfl
      have hM2 : M ≤ 12501 := by omega
      have hM0 : 0 < M := by omega
      have HHP := hide hpl
      have HHM := hide hM
      clear hpl hM HS hs0
      have HSz := hide hsz
      have hj3 : (((8 * M : Nat) : Int) % 8 != 0) = false := by simp
      have hj4 : (8 * (M : Int) % 8 != 0) = false := by simp
      clear hsz e1
      go_wp2
      go_loopw [3, 4, 5, 6] (fun o i _ _ wr => ∃ k : Nat, k ≤ M ∧ i = .int .i64 ((8 * k : Nat) : Int) ∧ Bytes w.heap.size wr o ((Pl.pack l).take k) ∧ Below w.heap.size w wr) (fun _ i _ _ _ => 8 * M - (intOf i).toNat)
      case atStart => exact ⟨0, by omega, rfl, World.ownsRow_nil _ _ _ _, Below.refl _ _⟩
      case round =>
        obtain ⟨k, hk, rfl, hbs, hB⟩ := hrel
        have hsz2 := hB.size
        by_cases hlt : k < M
        · have HBs := hide hbs
          have HB := hide hB
          clear hbs hB
          have hkk : 8 * (k : Int) < 8 * (M : Int) := by omega
          go_wp2
          go_loop [5, 6] (fun n q => ∃ t : Nat, t ≤ 8 ∧ q = .int .i64 t ∧ n = .int .i64 (nb (fun i => l.getD (8 * k + i) false) t)) (fun _ q => 8 - (intOf q).toNat)
          case atStart => exact ⟨0, by omega, rfl, rfl⟩
          case round =>
            obtain ⟨t, ht, rfl, rfl⟩ := hrel
            have hnl := nb_lt (fun i => l.getD (8 * k + i) false) t
            have hnp : 2 ^ t ≤ 256 := Nat.le_trans (Nat.pow_le_pow_right (by decide) ht) (by decide)
            by_cases htl : t < 8
            · have hix : 8 * k + t < sb.size := by omega
              have hv := HG.out (8 * k + t) hix
              have HN : Hid (nb (fun i => l.getD (8 * k + i) false) (t + 1) = 2 * nb (fun i => l.getD (8 * k + i) false) t + (l.getD (8 * k + t) false).toNat) := rfl
              generalize nb (fun i => l.getD (8 * k + i) false) t = nn at *
              have hi0 : (0 : Int) ≤ 8 * (k : Int) + (t : Int) := by omega
              have hi1 : 8 * (k : Int) + (t : Int) < 8 * (M : Int) := by omega
              have hi2 : (8 * (k : Int) + (t : Int)).toNat = 8 * k + t := by omega
              cases hbit : l.getD (8 * k + t) false with
              | true =>
                rw [hbit] at hv HN
                simp only [if_true] at hv
                clear hbit
                go_wp2
                go_round
                case rel => exact ⟨t + 1, by omega, by go_num, val_int (by rw [HN.out]; simp)⟩
                case measure => simp [intOf]; omega
              | false =>
                rw [hbit] at hv HN
                simp only [Bool.false_eq_true, if_false] at hv
                clear hbit
                go_wp2
                go_round
                case rel => exact ⟨t + 1, by omega, by go_num, val_int (by rw [HN.out]; simp)⟩
                case measure => simp [intOf]; omega
            · obtain rfl : t = 8 := by omega
              have HP : Hid ((Pl.pack l).take (k + 1) = (Pl.pack l).take k ++ [UInt8.ofNat (nb (fun i => l.getD (8 * k + i) false) 8)]) := by
                show _ = _
                rw [List.take_succ_eq_append_getElem (by rw [HHP.out]; exact hlt)]
                congr 1
                simp only [Pl.pack, List.getElem_map, List.getElem_range, Pl.byteAt, nb_8]
              have hbs := HBs.out
              generalize nb (fun i => l.getD (8 * k + i) false) 8 = nn at *
              have hn256 : (nn : Int) % 256 = nn := by omega
              have hxl : ((Pl.pack l).take k).length ≤ 12501 := by rw [List.length_take]; omega
              generalize (Pl.pack l).take k = xs at *
              go_wp2_with (first | (at_builtin; refine wpList_append_heir _ rfl (.tmp 33) (.tmp 36) 63 rfl w.heap.size 5 i0 (.int .u8 0) 1 1 Tryd.underlying63 hi hz0 hz1 hz2 rfl (by decide) _ _ _ rfl (hbs.alloc _) ⟨wr.heap.size, 0, none⟩ 1 1 [.int .u8 (nn : Int)] rfl rfl ?c1 ?c2 ?c3 ?c4 ?c5 ?_))
              case c2 => rfl
              case c3 => unfold maxLen; omega
              case c4 => omega
              case c5 => omega
              intro v' w1 hown' hgrow hheir
              have R := (bytes_step (nn : Int) (grownBy_refl wr _) (Heir.refl wr _) hown' hgrow hheir (UInt8.ofNat nn) (by rw [Pl.u8_ofNat _ (by omega)])).1
              have B1 := below_grownOwn HB.out HBs.out (by omega) hgrow
              rw [← HP.out] at R
              have HR := hide R
              have HB1 := hide B1
              clear hown' hgrow hheir hbs HBs HB R B1
              go_wp2
              go_roundw
              case rel => exact ⟨k + 1, by omega, val_int (by omega), HR.out, HB1.out⟩
              case measure => simp [intOf]; omega
        · have hkM : k = M := by omega
          subst hkM
          rw [List.take_of_length_le (by rw [HHP.out]; exact Nat.le_refl _)] at hbs
          have hcv := run_string_of hbs (by rw [HHP.out]; exact hM0)
          have HB := hide hB
          obtain ⟨g, cap, rfl, _⟩ := ownsRow_some hbs (by rw [HHP.out]; exact hM0)
          have hkk : ¬ 8 * (k : Int) < 8 * (k : Int) := by omega
          clear hbs hB
          go_wp2
          go_ret
          exact ⟨rfl, HB.out⟩
    · have e1 : (((l.length : Int) + (j : Int)) % 8 != 0) = true := by simp; omega
      have HA : Hid (sb ++ ⟨#[48]⟩ = zoS (l ++ List.replicate (j + 1) false)) := by
        show _ = _
        rw [HS.out, List.replicate_succ', ← List.append_assoc, ← zoS_append (l ++ List.replicate j false) [false]]; rfl
      clear HS hs0
      go_wp2
      go_round
      case rel => exact ⟨j + 1, _, by omega, by omega, rfl, by rw [ByteArray.size_append, hsz]; rfl, HA.out⟩
      case measure => simp only [ByteArray.size_append, hsz]; show _ - (l.length + j + 1) < _; omega
end Go.Proofs.YtcidgfdiacehmaaDoor

/- The reference: what Chunk cuts. -/
namespace Go.Proofs.YtcidgfdiacehmaaDoor
open Go.RowKit Go.Lib

theorem refStep_int (X : Int) (e : Nat) (w : World) (hX : X = e) (he : e ≤ 18446744073709551615) :
    Calls Tryd.prog 54 #[.int .u64 X] w fun r w' => r = .returned (.string (zoS (stepBits e))) ∧ Below w.heap.size w w' := by
  subst hX; exact refStep_any e w he

theorem wrap_times (tk tp : Int) : IntKind.u64.wrap ((u64 tk : Int) - (u64 tp : Int)) = (sub64 (u64 tk) (u64 tp) : Int) := wrap_sub64 _ _ (u64_le _)
/-- The 64 bits of a number as a text. -/
def bsI (X : Int) : ByteArray := zoS (Pl.bitsOf X.toNat 64)
theorem bsI_size (X : Int) : (bsI X).size = 64 := by rw [bsI, zoS_size, Pl.bitsOf_length]
theorem bsI_any (X : Int) (w : World) (h0 : 0 ≤ X) (h1 : X ≤ 18446744073709551615) :
    Calls Tryd.prog 53 #[.int .u64 X, .int .i64 64] w fun e w' => e = .returned (.string (bsI X)) ∧ Below w.heap.size w w' :=
  refBits_int X 64 X.toNat 64 w (by omega) rfl (by omega) (by decide)

theorem zoS_extract (l : List Bool) (a b : Nat) : (zoS l).extract a b = zoS ((l.take b).drop a) := by
  apply ByteArray.ext
  apply Array.ext'
  rw [ByteArray.data_extract, Array.toList_extract, List.extract_eq_take_drop, List.drop_take]
  simp [zoS, zo, List.map_drop, List.map_take]
theorem bits_tail (X : Nat) : ∀ (n k : Nat), k ≤ n → (Pl.bitsOf X n).drop (n - k) = Pl.bitsOf X k
  | 0, k, h => by obtain rfl : k = 0 := by omega
                  rfl
  | n + 1, k, h => by
    by_cases e : k = n + 1
    · subst e; simp
    · rw [show n + 1 - k = (n - k) + 1 by omega, Pl.bitsOf, List.drop_succ_cons, bits_tail X n k (by omega)]
theorem bits_head (X : Nat) : ∀ (z d : Nat), (Pl.bitsOf X (z + d)).take z = Pl.bitsOf (X / 2 ^ d) z
  | 0, d => by simp [Pl.bitsOf]
  | z + 1, d => by
    rw [show z + 1 + d = (z + d) + 1 by omega, Pl.bitsOf, List.take_succ_cons, bits_head X z d, Pl.bitsOf]
    congr 2
    rw [Nat.div_div_eq_div_mul, ← Nat.pow_add, Nat.add_comm d z]
theorem bits_slice (X a z : Nat) (h : a + z ≤ 64) : ((Pl.bitsOf X 64).take (a + z)).drop a = Pl.bitsOf (X / 2 ^ (64 - a - z)) z := by
  have h1 : (Pl.bitsOf X 64).drop a = Pl.bitsOf X (64 - a) := by
    have := bits_tail X 64 (64 - a) (by omega)
    rwa [show 64 - (64 - a) = a by omega] at this
  have h2 := bits_head X z (64 - a - z)
  rw [show z + (64 - a - z) = 64 - a by omega] at h2
  rw [List.drop_take, show a + z - a = z by omega, h1, h2]
theorem cut_bits (X a z : Nat) (h : a + z ≤ 64) : (zoS (Pl.bitsOf X 64)).extract a (a + z) = zoS (Pl.bitsOf (X / 2 ^ (64 - a - z)) z) := by rw [zoS_extract, bits_slice X a z h]
theorem stepBits_len (e : Nat) : (stepBits e).length ≤ 69 := by
  have h := timeBits_app [] 0 0 e
  have h2 : stepWay e ≤ 4 := stepWay_le e
  unfold stepBits
  rw [List.length_append, Pl.bitsOf_length]
  have h3 : (markOf (stepWay e) 4).length ≤ 4 := by
    rcases (show stepWay e = 0 ∨ stepWay e = 1 ∨ stepWay e = 2 ∨ stepWay e = 3 ∨ stepWay e = 4 by omega) with h | h | h | h | h <;> rw [h] <;> decide
  have h4 : stepWidth (stepWay e) ≤ 64 := by
    rcases (show stepWay e = 0 ∨ stepWay e = 1 ∨ stepWay e = 2 ∨ stepWay e = 3 ∨ stepWay e = 4 by omega) with h | h | h | h | h <;> rw [h] <;> decide
  omega
theorem bits_xor_u64_is (a b : Nat) (ha : a ≤ 18446744073709551615) (hb : b ≤ 18446744073709551615) : Go.bits .xor .u64 (a : Int) (b : Int) = ((a ^^^ b : Nat) : Int) := by
  have hx : a ^^^ b < 2 ^ 64 := Nat.xor_lt_two_pow (by omega) (by omega)
  have h1 : (BitVec.ofInt 64 (a : Int)).toNat = a := by
    rw [BitVec.ofInt_natCast, BitVec.toNat_ofNat]; exact Nat.mod_eq_of_lt (by omega)
  have h2 : (BitVec.ofInt 64 (b : Int)).toNat = b := by
    rw [BitVec.ofInt_natCast, BitVec.toNat_ofNat]; exact Nat.mod_eq_of_lt (by omega)
  show IntKind.u64.wrap ((BitVec.ofInt 64 (a : Int) ^^^ BitVec.ofInt 64 (b : Int)).toNat : Int) = _
  rw [BitVec.toNat_xor, h1, h2, IntKind.wrap_u64]
  omega

end Go.Proofs.YtcidgfdiacehmaaDoor

/- A chunk, the texts in their order, a payload: what is packed is read again, and a batch has one frame: pure. -/
namespace Go.Proofs.YtcidgfdiacehmaaDoor

theorem timeU_of (A C : List Bool) (u : US) (time : Nat) (hp : u.pos = A.length) (ht : u.t < 18446744073709551616) (hd : u.d < 18446744073709551616) (hm : time < 18446744073709551616) :
    timeU (packed (A ++ (timeBits u.t u.d time ++ C))) u = { u with pos := A.length + (timeBits u.t u.d time).length, t := time, d := sub64 time u.t } := by
  have h1 : sub64 time u.t < 18446744073709551616 := by unfold sub64; omega
  have h2 : sub64 (sub64 time u.t) u.d < 18446744073709551616 := by unfold sub64; omega
  have e1 := add_sub64 time u.t hm ht
  have e2 := add_sub64 (sub64 time u.t) u.d h1 hd
  unfold timeU timeBits
  generalize sub64 (sub64 time u.t) u.d = e at *
  generalize sub64 time u.t = d at *
  have hw := way_width e
  have hs := sub_add64 e (stepShift (stepWay e)) h2 (stepShift_lt _)
  have hle := stepWay_le e
  generalize add64 e (stepShift (stepWay e)) = x at *
  generalize stepWay e = k at *
  have hk := mk_packed k 4 u.st (Pl.bitsOf x (stepWidth k) ++ C) hle A
  have ht := tk_packed (A ++ markOf k 4) C x (stepWidth k) u.st
  rw [List.append_assoc] at ht
  rw [hp, List.append_assoc, hk]
  simp only
  rw [← List.length_append, ht]
  simp only
  rw [hw, hs, e2, e1]
  simp [Pl.bitsOf_length, Nat.add_assoc]
theorem lt_of_lz (x a : Nat) (hx : x < 2 ^ 64) (h : a ≤ lz x) : x < 2 ^ (64 - a) := by
  have h1 : x < 2 ^ Lib.bitLen x := bitLenAux_lt 64 x hx
  have h2 : Lib.bitLen x ≤ 64 := bitLenAux_le 64 x
  unfold lz at h
  exact Nat.lt_of_lt_of_le h1 (Nat.pow_le_pow_right (by decide) (by omega))
theorem dvd_of_tz (x k : Nat) (hx : x < 2 ^ 64) (h0 : x ≠ 0) (h : k ≤ tz x) : x % 2 ^ k = 0 := by
  obtain ⟨m, hm, _⟩ := Lib.ctzFrom_spec 64 x (by omega) hx
  have e : tz x = Lib.ctzFrom 64 x := by unfold tz Lib.ctz; rw [if_neg h0]
  rw [← e] at hm
  rw [hm, show tz x = k + (tz x - k) by omega, Nat.pow_add, Nat.mul_assoc]
  exact Nat.mul_mod_right _ _
theorem window_read (x a z : Nat) (hl : x < 2 ^ (64 - a)) (haz : a + z ≤ 64) (hd : x % 2 ^ (64 - a - z) = 0) : x / 2 ^ (64 - a - z) % 2 ^ z * 2 ^ (64 - a - z) = x := by
  have h1 : x / 2 ^ (64 - a - z) < 2 ^ z := by
    rw [Nat.div_lt_iff_lt_mul (Nat.two_pow_pos _), ← Nat.pow_add, show z + (64 - a - z) = 64 - a by omega]; exact hl
  rw [Nat.mod_eq_of_lt h1]
  exact Nat.div_mul_cancel (Nat.dvd_of_mod_eq_zero hd)
theorem xor_back (b y : Nat) : b ^^^ (y ^^^ b) = y := by
  rw [Nat.xor_comm y b, ← Nat.xor_assoc, Nat.xor_self, Nat.zero_xor]
theorem inU_of (A C : List Bool) (u : US) (y : Nat) (hp : u.pos = A.length) (haz : u.a + u.z ≤ 64) (hl : y ^^^ u.b < 2 ^ (64 - u.a)) (hd : (y ^^^ u.b) % 2 ^ (64 - u.a - u.z) = 0) :
    inU (packed (A ++ (Pl.bitsOf ((y ^^^ u.b) / 2 ^ (64 - u.a - u.z)) u.z ++ C))) u = { u with pos := A.length + u.z, b := y } := by
  unfold inU
  rw [hp, tk_packed]
  simp only
  rw [window_read _ _ _ hl haz hd, xor_back]
theorem winU_of (A C : List Bool) (u : US) (a z : Nat) (hp : u.pos = A.length) (ha : a ≤ 31) (hz : 1 ≤ z) (haz : a + z ≤ 64) :
    winU (packed (A ++ (winBits a z ++ C))) u = { u with pos := A.length + 11, a := a, z := z } := by
  unfold winU winBits
  have h1 := tk_packed A (Pl.bitsOf (z - 1) 6 ++ C) a 5 u.st
  have h2 := tk_packed (A ++ Pl.bitsOf a 5) C (z - 1) 6 u.st
  rw [List.append_assoc, List.length_append, Pl.bitsOf_length] at h2
  rw [hp, List.append_assoc, h1]
  simp only
  rw [h2]
  simp only
  have e1 : a % 2 ^ 5 = a := Nat.mod_eq_of_lt (by omega)
  have e2 : (z - 1) % 2 ^ 6 + 1 = z := by rw [Nat.mod_eq_of_lt (by omega)]; omega
  rw [e1, e2, if_pos haz]
theorem bitU_of (A C : List Bool) (u : US) (y : Nat) (hp : u.pos = A.length) (haz : u.a + u.z ≤ 64) (hy : y < 2 ^ 64) (hb : u.b < 2 ^ 64) :
    bitU (packed (A ++ (bitBits u.a u.z (y ^^^ u.b) ++ C))) u = { u with pos := A.length + (bitBits u.a u.z (y ^^^ u.b)).length, b := y, a := nextA u.a u.z (y ^^^ u.b), z := nextZ u.a u.z (y ^^^ u.b) } := by
  have hx : y ^^^ u.b < 2 ^ 64 := Nat.xor_lt_two_pow hy hb
  by_cases h0 : y ^^^ u.b = 0
  · have hyb : y = u.b := by
      have := xor_back u.b y
      rw [h0, Nat.xor_zero] at this; exact this.symm
    have hw : wayOf u.a u.z (y ^^^ u.b) = 0 := by unfold wayOf; rw [if_pos h0]
    have hm := mk_packed 0 2 u.st C (by omega) A
    unfold bitU bitBits nextA nextZ
    rw [hw, if_pos rfl, hp, hm]
    simp [hyb]
  · by_cases hh : holdsB u.a u.z (y ^^^ u.b) = true
    · have hw : wayOf u.a u.z (y ^^^ u.b) = 1 := by unfold wayOf; rw [if_neg h0, if_pos hh]
      unfold holdsB at hh
      simp only [Bool.and_eq_true, decide_eq_true_eq] at hh
      have hl := lt_of_lz _ u.a hx hh.2.1
      have hd := dvd_of_tz _ (64 - u.a - u.z) hx h0 (by omega)
      have hbb : bitBits u.a u.z (y ^^^ u.b) = markOf 1 2 ++ Pl.bitsOf ((y ^^^ u.b) / 2 ^ (64 - u.a - u.z)) u.z := by unfold bitBits; rw [hw]; simp
      have hna : nextA u.a u.z (y ^^^ u.b) = u.a := by unfold nextA; rw [hw]; simp
      have hnz : nextZ u.a u.z (y ^^^ u.b) = u.z := by unfold nextZ; rw [hw]; simp
      rw [hbb, hna, hnz]
      unfold bitU
      generalize hX : (y ^^^ u.b) / 2 ^ (64 - u.a - u.z) = X at *
      have hm := mk_packed 1 2 u.st (Pl.bitsOf X u.z ++ C) (by omega) A
      have hi := inU_of (A ++ markOf 1 2) C { u with pos := A.length + (markOf 1 2).length, st := u.st } y (by simp) haz hl hd
      simp only at hi
      rw [hX, List.append_assoc] at hi
      rw [hp, List.append_assoc, hm]
      simp only
      rw [if_neg (by decide), if_neg (by decide), hi]
      simp [Pl.bitsOf_length, Nat.add_assoc]
    · have hw : wayOf u.a u.z (y ^^^ u.b) = 2 := by unfold wayOf; rw [if_neg h0, if_neg hh]
      obtain ⟨n1, n2, n3, n4⟩ := new_bounds _ h0 hx
      have hl := lt_of_lz _ (newAhead (y ^^^ u.b)) hx (by unfold newAhead; omega)
      have hd := dvd_of_tz _ (64 - newAhead (y ^^^ u.b) - newSize (y ^^^ u.b)) hx h0 (by omega)
      have hbb : bitBits u.a u.z (y ^^^ u.b) = markOf 2 2 ++ winBits (newAhead (y ^^^ u.b)) (newSize (y ^^^ u.b)) ++ Pl.bitsOf ((y ^^^ u.b) / 2 ^ (64 - newAhead (y ^^^ u.b) - newSize (y ^^^ u.b))) (newSize (y ^^^ u.b)) := by unfold bitBits; rw [hw]; simp
      have hna : nextA u.a u.z (y ^^^ u.b) = newAhead (y ^^^ u.b) := by unfold nextA; rw [hw]; simp
      have hnz : nextZ u.a u.z (y ^^^ u.b) = newSize (y ^^^ u.b) := by unfold nextZ; rw [hw]; simp
      rw [hbb, hna, hnz]
      unfold bitU
      generalize hX : (y ^^^ u.b) / 2 ^ (64 - newAhead (y ^^^ u.b) - newSize (y ^^^ u.b)) = X at *
      generalize newAhead (y ^^^ u.b) = a at *
      generalize newSize (y ^^^ u.b) = z at *
      have hm := mk_packed 2 2 u.st (winBits a z ++ (Pl.bitsOf X z ++ C)) (by omega) A
      have hn := winU_of (A ++ markOf 2 2) (Pl.bitsOf X z ++ C) { u with pos := A.length + (markOf 2 2).length, st := u.st } a z (by simp) n1 n3 (by omega)
      have hi := inU_of (A ++ markOf 2 2 ++ winBits a z) C { u with pos := (A ++ markOf 2 2).length + 11, a := a, z := z } y (by simp [winBits, Pl.bitsOf_length]; omega) (by show a + z ≤ 64; omega) hl hd
      simp only at hi hn
      rw [hX] at hi
      simp only [List.append_assoc] at hi hn hm ⊢
      rw [hp, hm]
      simp only
      rw [if_neg (by decide), if_pos trivial, hn, hi]
      simp [Pl.bitsOf_length, winBits, Nat.add_assoc]; omega
theorem toI_u64 (t : Int) (h1 : -9223372036854775808 ≤ t) (h2 : t ≤ 9223372036854775807) : toI (u64 t) = t := by
  unfold toI u64; split <;> omega
theorem seqU_cons (s : ByteArray) (u : US) (n : Nat) : seqU s u (n + 1) = (samU u :: (seqU s (stepU s u) n).1, (seqU s (stepU s u) n).2) := by
  induction n with
  | zero => rfl
  | succ n ih => rw [seqU, ih]; simp [seqU]
theorem seqU_of (r : List (Int × Nat)) : ∀ (A : List Bool) (u : US), u.pos = A.length → u.t < 18446744073709551616 → u.d < 18446744073709551616 → u.b < 2 ^ 64 → u.a + u.z ≤ 64 →
    (∀ x ∈ r, -9223372036854775808 ≤ x.1 ∧ x.1 ≤ 9223372036854775807 ∧ x.2 ≤ 18446744073709551615) →
    (seqU (packed (A ++ goBits u.t u.d u.b u.a u.z r)) u r.length).1 = samU u :: r ∧ (seqU (packed (A ++ goBits u.t u.d u.b u.a u.z r)) u r.length).2.st = u.st := by
  induction r with
  | nil => intro A u _ _ _ _ _ _; exact ⟨rfl, rfl⟩
  | cons x r ih =>
    intro A u hp ht hd hb haz hwf
    have hx := hwf x (by simp)
    have htm : u64 x.1 < 18446744073709551616 := by have := u64_le x.1; omega
    have hx2 : x.2 < 2 ^ 64 := by omega
    rw [List.length_cons, seqU_cons, goBits]
    have h1 := timeU_of A (bitBits u.a u.z (x.2 ^^^ u.b) ++ goBits (u64 x.1) (sub64 (u64 x.1) u.t) x.2 (nextA u.a u.z (x.2 ^^^ u.b)) (nextZ u.a u.z (x.2 ^^^ u.b)) r) u (u64 x.1) hp ht hd htm
    have h2 := bitU_of (A ++ timeBits u.t u.d (u64 x.1)) (goBits (u64 x.1) (sub64 (u64 x.1) u.t) x.2 (nextA u.a u.z (x.2 ^^^ u.b)) (nextZ u.a u.z (x.2 ^^^ u.b)) r)
      { u with pos := A.length + (timeBits u.t u.d (u64 x.1)).length, t := u64 x.1, d := sub64 (u64 x.1) u.t } x.2 (by simp) haz hx2 hb
    have hn := next_bounds u.a u.z (x.2 ^^^ u.b) haz (Nat.xor_lt_two_pow hx2 hb)
    have hs1 : sub64 (u64 x.1) u.t < 18446744073709551616 := by unfold sub64; omega
    have h3 := ih (A ++ timeBits u.t u.d (u64 x.1) ++ bitBits u.a u.z (x.2 ^^^ u.b)) ⟨(A ++ timeBits u.t u.d (u64 x.1) ++ bitBits u.a u.z (x.2 ^^^ u.b)).length, u.st, u64 x.1, sub64 (u64 x.1) u.t, x.2, nextA u.a u.z (x.2 ^^^ u.b), nextZ u.a u.z (x.2 ^^^ u.b)⟩
      rfl htm hs1 hx2 hn (fun y hy => hwf y (by simp [hy]))
    simp only at h1 h2 h3
    generalize goBits (u64 x.1) (sub64 (u64 x.1) u.t) x.2 (nextA u.a u.z (x.2 ^^^ u.b)) (nextZ u.a u.z (x.2 ^^^ u.b)) r = G at *
    have hst : stepU (packed (A ++ (timeBits u.t u.d (u64 x.1) ++ bitBits u.a u.z (x.2 ^^^ u.b) ++ G))) u = ⟨(A ++ timeBits u.t u.d (u64 x.1) ++ bitBits u.a u.z (x.2 ^^^ u.b)).length, u.st, u64 x.1, sub64 (u64 x.1) u.t, x.2, nextA u.a u.z (x.2 ^^^ u.b), nextZ u.a u.z (x.2 ^^^ u.b)⟩ := by
      unfold stepU
      simp only [List.append_assoc] at h1 h2 ⊢
      rw [h1, h2]
      simp [Nat.add_assoc]
    simp only [List.append_assoc] at h3 hst ⊢
    rw [hst, h3.1, h3.2]
    have : samU ⟨(A ++ (timeBits u.t u.d (u64 x.1) ++ bitBits u.a u.z (x.2 ^^^ u.b))).length, u.st, u64 x.1, sub64 (u64 x.1) u.t, x.2, nextA u.a u.z (x.2 ^^^ u.b), nextZ u.a u.z (x.2 ^^^ u.b)⟩ = x := by
      unfold samU; rw [toI_u64 x.1 hx.1 hx.2.1]
    rw [this]
    exact ⟨rfl, rfl⟩
theorem chunk_of (x : Int × Nat) (r : List (Int × Nat)) (hwf : ∀ y ∈ x :: r, -9223372036854775808 ≤ y.1 ∧ y.1 ≤ 9223372036854775807 ∧ y.2 ≤ 18446744073709551615) :
    (seqU (packed (chunkBits (x :: r))) (firstU (packed (chunkBits (x :: r)))) r.length).1 = x :: r ∧ (seqU (packed (chunkBits (x :: r))) (firstU (packed (chunkBits (x :: r)))) r.length).2.st = 0 := by
  have hx := hwf x (by simp)
  have htm : u64 x.1 < 18446744073709551616 := by have := u64_le x.1; omega
  have hx2 : x.2 < 2 ^ 64 := by omega
  have hf : firstU (packed (chunkBits (x :: r))) = ⟨128, 0, u64 x.1, 0, x.2, 0, 0⟩ := by
    have h1 := tk_packed [] (Pl.bitsOf x.2 64 ++ goBits (u64 x.1) 0 x.2 0 0 r) (u64 x.1) 64 0
    have h2 := tk_packed (Pl.bitsOf (u64 x.1) 64) (goBits (u64 x.1) 0 x.2 0 0 r) x.2 64 0
    rw [List.nil_append, List.length_nil, Nat.zero_add, Nat.mod_eq_of_lt htm] at h1
    rw [Pl.bitsOf_length, Nat.mod_eq_of_lt hx2] at h2
    have hc : chunkBits (x :: r) = Pl.bitsOf (u64 x.1) 64 ++ (Pl.bitsOf x.2 64 ++ goBits (u64 x.1) 0 x.2 0 0 r) := by rw [chunkBits, List.append_assoc]
    unfold firstU
    rw [hc, h1]
    simp only
    rw [h2]
  rw [hf]
  have h := seqU_of r (Pl.bitsOf (u64 x.1) 64 ++ Pl.bitsOf x.2 64) ⟨128, 0, u64 x.1, 0, x.2, 0, 0⟩ (by simp [Pl.bitsOf_length]) htm (by show 0 < 18446744073709551616; omega) hx2 (by show 0 + 0 ≤ 64; omega) (fun y hy => hwf y (by simp [hy]))
  simp only at h
  rw [chunkBits, h.1, h.2]
  refine ⟨?_, rfl⟩
  unfold samU
  rw [toI_u64 x.1 hx.1 hx.2.1]
end Go.Proofs.YtcidgfdiacehmaaDoor
namespace Go.Proofs.YtcidgfdiacehmaaDoor
open Go.Lib Go.Sort

theorem less_eq : ∀ (x y : List UInt8), Op.bytesLess x y = decide (x < y)
  | [], [] => by simp [Op.bytesLess]
  | _ :: _, [] => by simp [Op.bytesLess]
  | [], _ :: _ => by simp [Op.bytesLess]
  | a :: x, b :: y => by
    rw [Op.bytesLess, less_eq x y]
    simp only [List.cons_lt_cons_iff]
    by_cases h1 : a < b <;> by_cases h2 : a = b <;> by_cases h3 : x < y <;> simp [h1, h2, h3]
theorem lt_of_le_ne {x y : List UInt8} (h : x ≤ y) (hne : x ≠ y) : x < y := by
  by_cases hlt : x < y
  · exact hlt
  · exact absurd (List.le_antisymm h (List.not_lt.1 hlt)) hne
theorem get_list (zs : List (List UInt8)) (j : Nat) (hj : j < zs.length) : zs.toArray[j]! = zs[j] := by simp [hj]
theorem compact_sorted (zs : List (List UInt8)) (hs : zs.Pairwise (· ≤ ·)) : (Lib.compact zs).Pairwise (· < ·) ∧ ∀ x ∈ zs, x ∈ Lib.compact zs := by
  have hle : ∀ i j, i ≤ j → j < zs.length → zs.toArray[i]! ≤ zs.toArray[j]! := fun i j hij hj => by
    rw [get_list zs i (by omega), get_list zs j hj]
    by_cases e : i = j
    · subst e; exact List.not_lt.1 (List.lt_irrefl _)
    · exact List.pairwise_iff_getElem.1 hs i j (by omega) hj (by omega)
  have key : ∀ m, m ≤ zs.length → (Lib.compactUpTo zs.toArray m).Pairwise (· < ·) ∧ (∀ j, j < m → zs.toArray[j]! ∈ Lib.compactUpTo zs.toArray m) ∧ ∀ x ∈ Lib.compactUpTo zs.toArray m, ∃ j, j < m ∧ x = zs.toArray[j]! := by
    intro m
    induction m with
    | zero => intro _; exact ⟨by simp [Lib.compactUpTo], fun j hj => by omega, fun x hx => by simp [Lib.compactUpTo] at hx⟩
    | succ m ih =>
      intro hm
      obtain ⟨h1, h2, h3⟩ := ih (by omega)
      rw [Lib.compactUpTo_succ]
      by_cases hk : Lib.keeps zs.toArray m = true
      · rw [if_pos hk]
        refine ⟨?_, fun j hj => ?_, fun x hx => ?_⟩
        · rw [List.pairwise_append]
          refine ⟨h1, List.pairwise_singleton _ _, fun x hx y hy => ?_⟩
          rw [List.mem_singleton.1 hy]
          obtain ⟨j, hj, rfl⟩ := h3 x hx
          have hne : zs.toArray[m]! ≠ zs.toArray[m - 1]! := by
            simp [Lib.keeps] at hk
            rcases hk with h | h
            · omega
            · simpa using h
          exact List.lt_of_le_of_lt (hle j (m - 1) (by omega) (by omega)) (lt_of_le_ne (hle (m - 1) m (by omega) (by omega)) (Ne.symm hne))
        · by_cases e : j = m
          · subst e; simp
          · exact List.mem_append_left _ (h2 j (by omega))
        · rcases List.mem_append.1 hx with hx | hx
          · obtain ⟨j, hj, e⟩ := h3 x hx; exact ⟨j, by omega, e⟩
          · exact ⟨m, by omega, List.mem_singleton.1 hx⟩
      · rw [if_neg hk, List.append_nil]
        have hm0 : 0 < m := by
          rcases Nat.eq_zero_or_pos m with h | h
          · subst h; exact absurd (Lib.keeps_lt_one _ 0 (by omega)) hk
          · exact h
        have heq : zs.toArray[m]! = zs.toArray[m - 1]! := by
          by_cases h : zs.toArray[m]! = zs.toArray[m - 1]!
          · exact h
          · exact absurd (Lib.keeps_pos h) hk
        refine ⟨h1, fun j hj => ?_, fun x hx => by obtain ⟨j, hj, e⟩ := h3 x hx; exact ⟨j, by omega, e⟩⟩
        by_cases e : j = m
        · subst e; rw [heq]; exact h2 _ (by omega)
        · exact h2 j (by omega)
  obtain ⟨h1, h2, _⟩ := key zs.length (Nat.le_refl _)
  refine ⟨h1, fun x hx => ?_⟩
  obtain ⟨j, hj, rfl⟩ := List.mem_iff_getElem.1 hx
  rw [← get_list zs j hj]
  exact h2 j hj
theorem texts_sorted (l : List ByteArray) : (sortedTexts l).Pairwise (fun a b => a.data.toList < b.data.toList) ∧ ∀ x ∈ l, x ∈ sortedTexts l := by
  have hs : ((l.map fun s => s.data.toList).mergeSort fun x y => decide (x ≤ y)).Pairwise (· ≤ ·) := by
    have := List.pairwise_mergeSort (le := fun x y : List UInt8 => decide (x ≤ y)) (fun a b c h1 h2 => by simp at *; exact List.le_trans h1 h2) (fun a b => by simp; exact List.le_total a b) (l.map fun s => s.data.toList)
    exact this.imp fun h => of_decide_eq_true h
  obtain ⟨h1, h2⟩ := compact_sorted _ hs
  unfold sortedTexts
  refine ⟨?_, fun x hx => ?_⟩
  · rw [List.pairwise_map]
    exact h1.imp fun h => by simpa using h
  · refine List.mem_map.2 ⟨x.data.toList, h2 _ (List.mem_mergeSort.2 (List.mem_map.2 ⟨x, hx, rfl⟩)), ?_⟩
    simp
theorem bsGo_in (less : Nat → Bool) (k n : Nat) (h1 : ∀ t, t < k → less t = true) (h2 : ∀ t, k ≤ t → t < n → less t = false) : ∀ (f lo hi : Nat), hi - lo ≤ f → lo ≤ k → k ≤ hi → hi ≤ n → Lib.bsGo less f lo hi = k
  | 0, lo, hi, hf, a, b, _ => by simp [Lib.bsGo]; omega
  | f + 1, lo, hi, hf, a, b, c => by
    unfold Lib.bsGo
    by_cases h : lo < hi
    · rw [if_pos h]
      by_cases hm : (lo + hi) / 2 < k
      · rw [h1 _ hm, if_pos rfl]; exact bsGo_in less k n h1 h2 f _ _ (by omega) (by omega) b c
      · rw [h2 _ (by omega) (by omega)]; exact bsGo_in less k n h1 h2 f _ _ (by omega) a (by omega) (by omega)
    · rw [if_neg h]; omega
theorem place_of (texts : List ByteArray) (hp : texts.Pairwise (fun a b => a.data.toList < b.data.toList)) (x : ByteArray) (hx : x ∈ texts) : texts[placeOf texts x]? = some x := by
  obtain ⟨k, hk, e⟩ := List.mem_iff_getElem.1 hx
  have hg : ∀ t (ht : t < texts.length), (texts.getD t ByteArray.empty).toList = texts[t].data.toList := fun t ht => by
    rw [ByteArray.toList_eq, List.getD_eq_getElem?_getD, List.getElem?_eq_getElem ht]; rfl
  have hk2 : placeOf texts x = k := by
    unfold placeOf
    refine bsGo_in _ k texts.length (fun t ht => ?_) (fun t ht htl => ?_) _ _ _ (by omega) (Nat.zero_le _) (by omega) (Nat.le_refl _)
    · rw [less_eq, hg t (by omega), ByteArray.toList_eq, ← e]
      exact decide_eq_true (List.pairwise_iff_getElem.1 hp t k (by omega) hk ht)
    · rw [less_eq, hg t htl, ByteArray.toList_eq, ← e]
      refine decide_eq_false ?_
      by_cases h : t = k
      · subst h; exact List.lt_irrefl _
      · exact List.lt_asymm (List.pairwise_iff_getElem.1 hp k t hk htl (by omega))
  rw [hk2, List.getElem?_eq_getElem hk, e]
end Go.Proofs.YtcidgfdiacehmaaDoor
namespace Go.Proofs.YtcidgfdiacehmaaDoor

theorem seqTo_cons {α : Type} (f : Rest → α × Rest) (s : Rest) (n : Nat) : seqTo f s (n + 1) = ((f s).1 :: (seqTo f (f s).2 n).1, (seqTo f (f s).2 n).2) := by
  induction n with
  | zero => rfl
  | succ n ih => rw [seqTo, ih]; simp [seqTo]
theorem seqTo_of {α : Type} (f : Rest → α × Rest) (enc : α → List UInt8) (C : List UInt8) : ∀ xs : List α, (∀ x ∈ xs, ∀ D, f (BA (enc x ++ D), 0) = (x, (BA D, 0))) → seqTo f (BA (xs.flatMap enc ++ C), 0) xs.length = (xs, (BA C, 0)) := by
  intro xs
  induction xs with
  | nil => intro _; rfl
  | cons x r ih =>
    intro h
    rw [List.length_cons, seqTo_cons, List.flatMap_cons, List.append_assoc, h x (by simp) _]
    simp only
    rw [ih fun y hy => h y (by simp [hy])]
theorem tofR_of (texts : List ByteArray) (x : ByteArray) (D : List UInt8) (hg : texts[placeOf texts x]? = some x) (hl : texts.length ≤ 1000) : tofR texts (BA (Pl.varint (placeOf texts x) ++ D), 0) = (x, (BA D, 0)) := by
  have hlt := (List.getElem?_eq_some_iff.1 hg).1
  unfold tofR
  simp only
  rw [numR_of (placeOf texts x) D ((texts.length : Int) - 1) 0 (by omega) (by omega)]
  simp only
  rw [if_neg (by decide), List.getD_eq_getElem?_getD, hg]
  rfl
theorem labR_of (texts : List ByteArray) (x : Lab) (D : List UInt8) (h1 : texts[placeOf texts x.1]? = some x.1) (h2 : texts[placeOf texts x.2]? = some x.2) (hl : texts.length ≤ 1000) :
    labR texts (BA ((Pl.varint (placeOf texts x.1) ++ Pl.varint (placeOf texts x.2)) ++ D), 0) = (x, (BA D, 0)) := by
  unfold labR
  rw [List.append_assoc, tofR_of texts x.1 _ h1 hl]
  simp only
  rw [tofR_of texts x.2 _ h2 hl]
theorem labsR_of (texts : List ByteArray) (l : List Lab) (D : List UInt8) (h : ∀ x ∈ l, texts[placeOf texts x.1]? = some x.1 ∧ texts[placeOf texts x.2]? = some x.2) (hl : texts.length ≤ 1000) (h4 : l.length ≤ 4) :
    labsR texts (BA (Pl.varint l.length ++ (labelsBytes texts l ++ D)), 0) = (l, (BA D, 0)) := by
  unfold labsR
  simp only
  rw [numR_of l.length _ 4 0 (by omega) (by omega)]
  exact seqTo_of (labR texts) (fun x => Pl.varint (placeOf texts x.1) ++ Pl.varint (placeOf texts x.2)) D l fun x hx E => labR_of texts x E (h x hx).1 (h x hx).2 hl
theorem samplesR_of (x : Int × Nat) (r : List (Int × Nat)) (D : List UInt8) (hn : (x :: r).length ≤ 40) (hwf : ∀ y ∈ x :: r, -9223372036854775808 ≤ y.1 ∧ y.1 ≤ 9223372036854775807 ∧ y.2 ≤ 18446744073709551615) :
    samplesR (BA (Pl.varint (x :: r).length ++ (Pl.varint (chunkBytes (x :: r)).length ++ (chunkBytes (x :: r) ++ D))), 0) = (x :: r, (BA D, 0)) := by
  have hc := chunk_of x r hwf
  have hlen := chunkBytes_len (x :: r) (by omega)
  have hlen' : (chunkBytes (x :: r)).length ≤ 6000 := hlen
  unfold samplesR
  simp only
  rw [numR_of (x :: r).length _ 40 0 (by omega) (by omega)]
  simp only
  rw [textR_of (chunkBytes (x :: r)) D _ 0 (by omega) (by rw [BA_size, List.length_append, List.length_append]; omega)]
  simp only
  have hch : chunkR (BA (chunkBytes (x :: r))) (x :: r).length = seqU (packed (chunkBits (x :: r))) (firstU (packed (chunkBits (x :: r)))) r.length := rfl
  rw [if_neg (by simp), hch, hc.1, hc.2, if_neg (by decide)]
theorem serR_of (texts : List ByteArray) (s : Ser) (D : List UInt8) (h : ∀ x ∈ s.1, texts[placeOf texts x.1]? = some x.1 ∧ texts[placeOf texts x.2]? = some x.2) (hl : texts.length ≤ 1000) (h4 : s.1.length ≤ 4) (h0 : s.2 ≠ []) (h40 : s.2.length ≤ 40)
    (hwf : ∀ y ∈ s.2, -9223372036854775808 ≤ y.1 ∧ y.1 ≤ 9223372036854775807 ∧ y.2 ≤ 18446744073709551615) : serR texts (BA (seriesBytes texts s.1 s.2 ++ D), 0) = (s, (BA D, 0)) := by
  obtain ⟨l, m⟩ := s
  cases m with
  | nil => exact absurd rfl h0
  | cons x r =>
    unfold serR seriesBytes
    simp only [List.append_assoc]
    rw [labsR_of texts l _ h hl h4]
    simp only
    rw [samplesR_of x r D h40 hwf]
theorem textsR_of (texts : List ByteArray) (D : List UInt8) (hl : texts.length ≤ 64) (h16 : ∀ x ∈ texts, x.size ≤ 16) : textsR (BA (Pl.varint texts.length ++ (textsBytes texts ++ D)), 0) = (texts, (BA D, 0)) := by
  unfold textsR
  simp only
  rw [numR_of texts.length _ 64 0 (by omega) (by omega)]
  refine seqTo_of (fun s : Rest => textR s.1 16 s.2) (fun x => Pl.varint x.size ++ x.data.toList) D texts fun x hx E => ?_
  have hs : x.data.toList.length = x.size := by simp
  have h1 := h16 x hx
  have h2 := textR_of x.data.toList E 16 0 (by omega) (by omega)
  rw [hs, BA_of] at h2
  simp only [List.append_assoc]
  exact h2
/-- What is packed is read. -/
theorem payR_of (bs : List Ser) (h1 : BatchOk bs) (h2 : LimitsOk bs) (hr : InRange bs) : payR (BA (payload bs)) = (bs, (BA [], 0)) := by
  have hF := fits_of h1 h2
  have hsm := allTexts_small bs hF
  have hts := texts_sorted (allTexts bs)
  have hlen := sortedTexts_len (allTexts bs)
  have hin : ∀ s ∈ bs, ∀ x ∈ s.1, (sortedTexts (allTexts bs))[placeOf (sortedTexts (allTexts bs)) x.1]? = some x.1 ∧ (sortedTexts (allTexts bs))[placeOf (sortedTexts (allTexts bs)) x.2]? = some x.2 := fun s hs x hx => by
    have m : ∀ y, y = x.1 ∨ y = x.2 → y ∈ allTexts bs := fun y hy => by
      refine List.mem_flatMap.2 ⟨s, hs, List.mem_flatMap.2 ⟨x, hx, ?_⟩⟩
      rcases hy with rfl | rfl <;> simp
    exact ⟨place_of _ hts.1 _ (hts.2 _ (m _ (.inl rfl))), place_of _ hts.1 _ (hts.2 _ (m _ (.inr rfl)))⟩
  have h16 : ∀ x ∈ sortedTexts (allTexts bs), x.size ≤ 16 := fun x hx => hsm.2 x (sortedTexts_mem hx)
  have hl64 : (sortedTexts (allTexts bs)).length ≤ 64 := by omega
  unfold payR payload
  generalize sortedTexts (allTexts bs) = texts at *
  simp only [List.append_assoc]
  rw [textsR_of texts _ hl64 h16]
  simp only
  rw [numR_of bs.length _ 8 0 (by have := hF.series; omega) (by have := hF.series; omega)]
  simp only
  have := seqTo_of (serR texts) (fun s => seriesBytes texts s.1 s.2) [] bs fun s hs E => serR_of texts s E (hin s hs) (by omega) (hF.labels s hs) (hF.samples s hs).1 (hF.samples s hs).2 (hr s hs)
  rw [List.append_nil] at this
  exact this
theorem frame_is (bs : List Ser) (h1 : BatchOk bs) (h2 : LimitsOk bs) (hr : InRange bs) : IsFrame (frameOf (payload bs)) ∧ got (frameOf (payload bs)) = bs := by
  have hp := payload_bounds (fits_of h1 h2)
  obtain ⟨ho, hi⟩ := opens_of (payload bs) (by omega)
  have hq := payR_of bs h1 h2 hr
  have hg : got (frameOf (payload bs)) = bs := by unfold got; rw [hi, hq]
  refine ⟨⟨ho, by rw [hi, hq], by rw [hg]; exact h1, by rw [hg]; exact h2, by rw [hg, hi]⟩, hg⟩
end Go.Proofs.YtcidgfdiacehmaaDoor

/- The reference: place. -/
namespace Go.Proofs.YtcidgfdiacehmaaDoor
open Go.RowKit Go.Lib

/-- No text ahead of number k is x. -/
def NoneTo (l : List ByteArray) (x : ByteArray) (k : Nat) : Prop := ∀ i y, i < k → l[i]? = some y → y ≠ x
theorem NoneTo.succ {l : List ByteArray} {x y : ByteArray} {k : Nat} (h : NoneTo l x k) (hy : l[k]? = some y) (hn : y ≠ x) : NoneTo l x (k + 1) := by
  intro i u hi hu
  by_cases e : i = k
  · subst e; rw [hy] at hu; cases hu; exact hn
  · exact h i u (by omega) hu

set_option maxRecDepth 100000 in
set_option maxHeartbeats 400000 in
theorem refPlace_any (v : Value) (b : Nat) (l : List ByteArray) (x : ByteArray) (w : World) (ht : TextsAt w v b l) (hl : l.length ≤ 1000000) (hx : x ∈ l) :
    Calls Tryd.prog 37 #[v, .string x] w fun e w' => (∃ k : Nat, e = .returned (.int .i64 k) ∧ l[k]? = some x ∧ NoneTo l x k) ∧ w' = w := by
  rcases ht.shape with ⟨rfl, a, c, rfl⟩ | ⟨o, c, rfl, hc⟩
  · cases hx
  have HC := hide hc
  have HX := hide hx
  clear hc hx ht
  go_enter Tryd.func37, Tryd.ntmps37
  go_wp2
  go_loop [5] (fun i => ∃ k : Nat, k ≤ l.length ∧ i = .int .i64 k ∧ Hid (NoneTo l x k)) (fun i => l.length - (intOf i).toNat)
  case atStart => exact ⟨0, by omega, rfl, fun i y h => by omega⟩
  case round =>
    obtain ⟨k, hk, rfl, HN⟩ := hrel
    by_cases hlt : k < l.length
    · obtain ⟨y, hy⟩ : ∃ y, l[k]? = some y := ⟨_, List.getElem?_eq_getElem hlt⟩
      have c1 := HC.out k y hy
      have HY := hide hy
      clear hy
      by_cases he : y = x
      · have heq : (y.toList == x.toList) = true := by rw [he]; simp
        have HE := hide he
        clear he
        go_wp2
        go_ret
        exact ⟨⟨k, rfl, by rw [← HE.out]; exact HY.out, HN.out⟩, rfl⟩
      · have heq : (y.toList == x.toList) = false := by
          simp only [beq_eq_false_iff_ne, ne_eq]
          intro h
          apply he
          apply ByteArray.ext
          rw [ByteArray.toList_eq, ByteArray.toList_eq] at h
          exact Array.ext' h
        go_wp2
        go_round
        case rel => exact ⟨k + 1, by omega, by go_num, HN.out.succ HY.out he⟩
        case measure => simp [intOf]; omega
    · obtain ⟨i, hi⟩ := List.mem_iff_getElem?.1 HX.out
      have hil := (List.getElem?_eq_some_iff.1 hi).1
      exact absurd rfl (HN.out i x (by omega) hi)
end Go.Proofs.YtcidgfdiacehmaaDoor

/- The reference: with, Texts, place: pure. -/
namespace Go.Proofs.YtcidgfdiacehmaaDoor
open Go.RowKit Go.Lib

/-- with, from a place on; b: the text is in already. -/
def wGo (s : ByteArray) : Bool → List ByteArray → List ByteArray
  | true, [] => []
  | false, [] => [s]
  | b, x :: r => (if b = false ∧ Op.bytesLess x.toList s.toList = false then [s] else []) ++ (if x = s then [] else [x]) ++ wGo s (b || !Op.bytesLess x.toList s.toList) r

def TLt (a b : ByteArray) : Prop := a.data.toList < b.data.toList

theorem tless (x s : ByteArray) : Op.bytesLess x.toList s.toList = true ↔ TLt x s := by
  rw [ByteArray.toList_eq, ByteArray.toList_eq, less_eq]; simp [TLt]
theorem tirr (x : ByteArray) : ¬ TLt x x := fun h => List.lt_irrefl _ h
theorem ttrans {x y z : ByteArray} (h : TLt x y) (g : TLt y z) : TLt x z := List.lt_trans h g
theorem ttotal {x y : ByteArray} (h : ¬ TLt x y) (hn : x ≠ y) : TLt y x := by
  refine lt_of_le_ne (List.not_lt.1 h) ?_
  intro e
  exact hn (ByteArray.ext (Array.ext' e.symm))
theorem wGo_true (s : ByteArray) : ∀ l : List ByteArray, wGo s true l = l.filter (fun x => decide (x ≠ s))
  | [] => rfl
  | x :: r => by
    have ih := wGo_true s r
    unfold wGo
    by_cases h : x = s
    · simp [h, ih]
    · simp [h, ih]
theorem wGo_sorted (s : ByteArray) : ∀ l : List ByteArray, l.Pairwise TLt → (wGo s false l).Pairwise TLt ∧ ∀ x, x ∈ wGo s false l ↔ x = s ∨ x ∈ l
  | [], _ => by simp [wGo]
  | x :: r, h => by
    obtain ⟨h1, h2⟩ := List.pairwise_cons.1 h
    obtain ⟨i1, i2⟩ := wGo_sorted s r h2
    by_cases hl : Op.bytesLess x.toList s.toList = true
    · have hlt := (tless x s).1 hl
      have hne : x ≠ s := fun e => tirr s (e ▸ hlt)
      have e : wGo s false (x :: r) = x :: wGo s false r := by
        rw [wGo]; simp [hl, hne]
      rw [e]
      refine ⟨List.pairwise_cons.2 ⟨fun y hy => ?_, i1⟩, fun y => ?_⟩
      · rcases (i2 y).1 hy with rfl | hy
        · exact hlt
        · exact h1 y hy
      · rw [List.mem_cons, List.mem_cons, i2 y]
        exact ⟨fun h => h.elim (fun h => .inr (.inl h)) (fun h => h.elim .inl (fun h => .inr (.inr h))), fun h => h.elim (fun h => .inr (.inl h)) (fun h => h.elim .inl (fun h => .inr (.inr h)))⟩
    · have hf : Op.bytesLess x.toList s.toList = false := by simpa using hl
      have hnl : ¬ TLt x s := fun h => hl ((tless x s).2 h)
      have e : wGo s false (x :: r) = s :: (x :: r).filter (fun y => decide (y ≠ s)) := by
        rw [wGo]
        simp only [hf, Bool.not_false, Bool.or_true, wGo_true]
        by_cases hx : x = s
        · simp [hx]
        · simp [hx]
      rw [e]
      refine ⟨List.pairwise_cons.2 ⟨fun y hy => ?_, h.filter _⟩, fun y => ?_⟩
      · obtain ⟨hy1, hy2⟩ := List.mem_filter.1 hy
        have hys : y ≠ s := by simpa using hy2
        rcases List.mem_cons.1 hy1 with rfl | hy1
        · exact ttotal hnl hys
        · by_cases hx : x = s
          · exact hx ▸ h1 y hy1
          · exact ttrans (ttotal hnl hx) (h1 y hy1)
      · rw [List.mem_cons, List.mem_filter]
        by_cases hy : y = s
        · simp [hy]
        · simp [hy]
theorem sorted_unique : ∀ l m : List ByteArray, l.Pairwise TLt → m.Pairwise TLt → (∀ x, x ∈ l ↔ x ∈ m) → l = m
  | [], [], _, _, _ => rfl
  | [], b :: m, _, _, h => by have := (h b).2 (by simp); cases this
  | a :: l, [], _, _, h => by have := (h a).1 (by simp); cases this
  | a :: l, b :: m, h1, h2, h => by
    obtain ⟨p1, p2⟩ := List.pairwise_cons.1 h1
    obtain ⟨q1, q2⟩ := List.pairwise_cons.1 h2
    have hab : a = b := by
      rcases List.mem_cons.1 ((h a).1 (by simp)) with e | hm
      · exact e
      · rcases List.mem_cons.1 ((h b).2 (by simp)) with e | hl
        · exact e.symm
        · exact absurd (ttrans (q1 a hm) (p1 b hl)) (tirr b)
    subst hab
    refine congrArg (a :: ·) (sorted_unique l m p2 q2 fun x => ⟨fun hx => ?_, fun hx => ?_⟩)
    · rcases List.mem_cons.1 ((h x).1 (by simp [hx])) with e | hm
      · exact absurd (e ▸ p1 x hx) (tirr _)
      · exact hm
    · rcases List.mem_cons.1 ((h x).2 (by simp [hx])) with e | hm
      · exact absurd (e ▸ q1 x hx) (tirr _)
      · exact hm
/-- What Texts answers. -/
def foldTexts (acc l : List ByteArray) : List ByteArray := l.foldl (fun t s => wGo s false t) acc
theorem foldTexts_sorted : ∀ (l acc : List ByteArray), acc.Pairwise TLt → (foldTexts acc l).Pairwise TLt ∧ ∀ x, x ∈ foldTexts acc l ↔ x ∈ acc ∨ x ∈ l
  | [], acc, h => ⟨h, fun x => by simp [foldTexts]⟩
  | s :: r, acc, h => by
    obtain ⟨h1, h2⟩ := wGo_sorted s acc h
    obtain ⟨i1, i2⟩ := foldTexts_sorted r (wGo s false acc) h1
    refine ⟨i1, fun x => ?_⟩
    have e : foldTexts acc (s :: r) = foldTexts (wGo s false acc) r := rfl
    rw [e, i2 x, h2 x, List.mem_cons]
    exact ⟨fun h => h.elim (fun h => h.elim (fun h => .inr (.inl h)) .inl) (fun h => .inr (.inr h)), fun h => h.elim (fun h => .inl (.inr h)) (fun h => h.elim (fun h => .inl (.inl h)) .inr)⟩
theorem foldTexts_is (l : List ByteArray) : foldTexts [] l = sortedTexts l := by
  obtain ⟨h1, h2⟩ := foldTexts_sorted l [] List.Pairwise.nil
  obtain ⟨g1, g2⟩ := texts_sorted l
  exact sorted_unique _ _ h1 g1 fun x => ⟨fun h => g2 x (by simpa using (h2 x).1 h), fun h => (h2 x).2 (.inr (sortedTexts_mem h))⟩
theorem wGo_len (s : ByteArray) : ∀ (l : List ByteArray) (b : Bool), (wGo s b l).length ≤ l.length + 1 := by
  have ht : ∀ l : List ByteArray, (wGo s true l).length ≤ l.length := fun l => by rw [wGo_true]; exact List.length_filter_le _ _
  intro l
  induction l with
  | nil => intro b; cases b <;> simp [wGo]
  | cons x r ih =>
    intro b
    cases b with
    | true => exact Nat.le_succ_of_le (ht _)
    | false =>
      rw [wGo]
      cases hf : Op.bytesLess x.toList s.toList with
      | true =>
        have := ih false
        by_cases hx : x = s
        · simp [hx]; simp [hx] at hf; omega
        · simp [hx]; omega
      | false =>
        have := ht r
        by_cases hx : x = s
        · simp [hx]; omega
        · simp [hx]; omega
theorem foldTexts_len : ∀ (l acc : List ByteArray), (foldTexts acc l).length ≤ acc.length + l.length
  | [], acc => by simp [foldTexts]
  | s :: r, acc => by
    have h1 := foldTexts_len r (wGo s false acc)
    have h2 := wGo_len s acc false
    have e : foldTexts acc (s :: r) = foldTexts (wGo s false acc) r := rfl
    rw [e, List.length_cons]; omega
/-- The first place is the place. -/
theorem place_is (texts : List ByteArray) (hp : texts.Pairwise TLt) (x : ByteArray) (k : Nat) (hk : texts[k]? = some x) : k = placeOf texts x := by
  have h := place_of texts hp x (List.mem_of_getElem? hk)
  generalize placeOf texts x = j at *
  obtain ⟨h1, e1⟩ := List.getElem?_eq_some_iff.1 hk
  obtain ⟨h2, e2⟩ := List.getElem?_eq_some_iff.1 h
  rcases Nat.lt_trichotomy k j with hh | hh | hh
  · have := List.pairwise_iff_getElem.1 hp k j h1 h2 hh
    rw [e1, e2] at this
    exact absurd this (tirr x)
  · exact hh
  · have := List.pairwise_iff_getElem.1 hp j k h2 h1 hh
    rw [e1, e2] at this
    exact absurd this (tirr x)
end Go.Proofs.YtcidgfdiacehmaaDoor

/- The reference: with, Texts. -/
namespace Go.Proofs.YtcidgfdiacehmaaDoor
open Go.RowKit Go.Lib

theorem wGo_drop {l : List ByteArray} {k : Nat} {x : ByteArray} (s : ByteArray) (b : Bool) (h : l[k]? = some x) :
    wGo s b (l.drop k) = (if b = false ∧ Op.bytesLess x.toList s.toList = false then [s] else []) ++ (if x = s then [] else [x]) ++ wGo s (b || !Op.bytesLess x.toList s.toList) (l.drop (k + 1)) := by
  obtain ⟨hk, hx⟩ := List.getElem?_eq_some_iff.1 h
  rw [List.drop_eq_getElem_cons hk, hx]
  cases b <;> rw [wGo]
theorem wGo_pos (s : ByteArray) (l : List ByteArray) : 0 < (wGo s false l).length := by
  cases l with
  | nil => simp [wGo]
  | cons x r =>
    rw [wGo]
    by_cases hx : x = s
    · subst hx
      have h : Op.bytesLess x.toList x.toList = false := by
        cases h : Op.bytesLess x.toList x.toList with
        | false => rfl
        | true => exact absurd ((tless x x).1 h) (tirr x)
      simp [h]
    · simp [hx]; omega
theorem str_ne {x s : ByteArray} (h : x ≠ s) : (x.toList == s.toList) = false := by
  simp only [beq_eq_false_iff_ne, ne_eq]
  intro e
  apply h
  apply ByteArray.ext
  rw [ByteArray.toList_eq, ByteArray.toList_eq] at e
  exact Array.ext' e
theorem str_eq {x s : ByteArray} (h : x = s) : (x.toList == s.toList) = true := by rw [h]; simp

theorem Txt.app1 {w W W' : World} {o o' : Value} {l : List ByteArray} {n : Nat} {x : ByteArray} (h : Txt w W o l) (hown : W'.ownsRow w.heap.size 9 1 o' n (Strs l ++ [.string x])) (hg : W.grownBy W' o.ownBlock) : Txt w W' o' (l ++ [x]) := by
  refine ⟨?_, h.below.grown hg h.below.size fun k e => (World.ownsRow.lt h.own k e).1⟩
  have hn : n = (l ++ [x]).length := by have := hown.1; simp [Strs] at this; simp; omega
  have e : Strs (l ++ [x]) = Strs l ++ [.string x] := by simp [Strs]
  rw [e, ← hn]; exact hown
theorem Txt.texts {w W : World} {o : Value} {l : List ByteArray} (h : Txt w W o l) (hl : 0 < l.length) : ∃ b, TextsAt W o b l ∧ w.heap.size ≤ b ∧ b < W.heap.size := by
  obtain ⟨g, c, hv, hg⟩ := ownsRow_some h.own hl
  have hlt := (World.ownsRow.lt h.own g (by rw [hv]; rfl)).2
  refine ⟨g, ⟨.inr ⟨0, c, hv, fun i x hx => ?_⟩⟩, hg, hlt⟩
  have hc := h.own.cells (g := g) (by rw [hv]; rfl) i (.string x) (by simp [Strs, hx])
  have e : (⟨g, 0, none⟩ : Addr).add i = ⟨g, 0 + i, none⟩ := by simp [Addr.add]; exact fun h => h.symm
  rw [e] at hc; exact hc

theorem one_news (W : World) (T : Nat) (x : Value) : ∀ (j : Nat) (u : Value), [x][j]? = some u → (W.alloc (.cells #[x] T)).cell? ((⟨W.heap.size, 0, none⟩ : Addr).add j) = some u := fun j u h => by
  obtain ⟨hj, e⟩ := List.getElem?_eq_some_iff.1 h
  obtain rfl : j = 0 := by simpa using hj
  have e2 : (⟨W.heap.size, 0, none⟩ : Addr).add 0 = ⟨W.heap.size, 0, none⟩ := by simp [Addr.add]
  rw [e2]
  refine (World.cell?_alloc_new _ _ _ 0).trans ?_
  simpa using h
theorem one_cell (x : ByteArray) : ∀ u ∈ [Value.string x], u.oneCell' = true := fun u h => by
  simp at h; subst h; rfl
set_option maxRecDepth 100000 in
set_option maxHeartbeats 1000000 in
theorem refWith_any (v : Value) (b : Nat) (l : List ByteArray) (s : ByteArray) (w : World) (ht : TextsAt w v b l) (hb : b < w.heap.size) (hl : l.length ≤ 100000) :
    Calls Tryd.prog 52 #[v, .string s] w fun e w' => ∃ o b', e = .returned o ∧ TextsAt w' o b' (wGo s false l) ∧ b' < w'.heap.size ∧ Below w.heap.size w w' := by
  obtain ⟨i0, hi, hz0, hz1, hz2⟩ := info_parts Tryd.infoStr
  have hsh : ∃ a c, v = .slice a l.length c := by
    rcases ht.shape with ⟨h, a, c, h2⟩ | ⟨o, c, h2, _⟩
    · exact ⟨a, c, by rw [h2, h]; rfl⟩
    · exact ⟨_, c, h2⟩
  obtain ⟨va, vc, rfl⟩ := hsh
  have HT := hide ht
  clear ht
  go_enter Tryd.func52, Tryd.ntmps52
  go_wp2
  go_loopw [5, 6, 7] (fun o u i wr => ∃ (k : Nat) (done : List ByteArray) (bb : Bool), k ≤ l.length ∧ i = .int .i64 k ∧ u = .bool bb ∧ Hid (Txt w wr o done) ∧ Hid (done ++ wGo s bb (l.drop k) = wGo s false l) ∧ done.length ≤ 2 * k) (fun _ _ i _ => l.length - (intOf i).toNat)
  case atStart => exact ⟨0, [], false, Nat.zero_le _, rfl, rfl, ⟨World.ownsRow_nil _ _ _ _, Below.refl _ _⟩, rfl, by simp⟩
  case round =>
    obtain ⟨k, done, bb, hk, rfl, rfl, HX, HG, hdl⟩ := hrel
    have hws : w.heap.size ≤ wr.heap.size := HX.out.below.size
    by_cases hlt : k < l.length
    · obtain ⟨x, hx⟩ : ∃ x, l[k]? = some x := ⟨_, List.getElem?_eq_getElem hlt⟩
      have hcc : ∃ o, va = some ⟨b, o, none⟩ ∧ wr.cell? ⟨b, o + k, none⟩ = some (.string x) := by
        rcases HT.out.shape with ⟨h, _⟩ | ⟨o, c, h2, hc⟩
        · rw [h] at hx; cases hx
        · cases h2
          exact ⟨o, rfl, (HX.out.below.cell (p := ⟨b, o + k, none⟩) hb).trans (hc k x hx)⟩
      obtain ⟨vo, rfl, c1⟩ := hcc
      have hg := HG.out
      rw [wGo_drop s bb hx] at hg
      clear HG hx
      cases bb with
      | true =>
        by_cases hxs : x = s
        · have hne := str_eq hxs
          have HZ : Hid (done ++ wGo s true (l.drop (k + 1)) = wGo s false l) := by show _ = _; rw [← hg]; simp [hxs]
          clear hg
          go_wp2
          go_roundw
          case rel => exact ⟨k + 1, done, true, by omega, by go_num, rfl, HX.out, HZ.out, by omega⟩
          case measure => simp [intOf]; omega
        · have hne := str_ne hxs
          have HZ : Hid ((done ++ [x]) ++ wGo s true (l.drop (k + 1)) = wGo s false l) := by show _ = _; rw [← hg]; simp [hxs]
          clear hg
          go_wp2_with (first | (at_builtin; refine wpList_append_heir _ rfl (.tmp 34) (.tmp 39) 68 rfl w.heap.size 9 i0 (.string ByteArray.empty) 1 16 Tryd.underlying68 hi hz0 hz1 hz2 rfl (by decide) _ _ _ rfl (HX.out.own.alloc _) ⟨wr.heap.size, 0, none⟩ 1 1 [.string x] rfl rfl (one_news _ _ _) (one_cell _) (by unfold maxLen; first | omega | (simp only [List.length_append, List.length_singleton]; omega)) (by first | omega | (simp only [List.length_append, List.length_singleton]; omega)) (by simp; omega) ?_))
          intro v5 w5 hown5 hgrow5 _
          have HX5 := hide ((HX.out.alloc _).app1 hown5 hgrow5)
          clear hown5 hgrow5
          go_wp2
          go_roundw
          case rel => exact ⟨k + 1, _, true, by omega, by go_num, rfl, HX5.out, HZ.out, by simp only [List.length_append, List.length_singleton]; omega⟩
          case measure => simp [intOf]; omega
      | false =>
        cases hless : Op.bytesLess x.toList s.toList with
        | true =>
          have hxs : x ≠ s := fun e => tirr s ((tless s s).1 (by rw [e] at hless; exact hless))
          have hne := str_ne hxs
          have HZ : Hid ((done ++ [x]) ++ wGo s false (l.drop (k + 1)) = wGo s false l) := by show _ = _; rw [← hg]; simp [hxs, hless]
          clear hg
          go_wp2_with (first | (at_builtin; refine wpList_append_heir _ rfl (.tmp 34) (.tmp 39) 68 rfl w.heap.size 9 i0 (.string ByteArray.empty) 1 16 Tryd.underlying68 hi hz0 hz1 hz2 rfl (by decide) _ _ _ rfl (HX.out.own.alloc _) ⟨wr.heap.size, 0, none⟩ 1 1 [.string x] rfl rfl (one_news _ _ _) (one_cell _) (by unfold maxLen; first | omega | (simp only [List.length_append, List.length_singleton]; omega)) (by first | omega | (simp only [List.length_append, List.length_singleton]; omega)) (by simp; omega) ?_))
          intro v5 w5 hown5 hgrow5 _
          have HX5 := hide ((HX.out.alloc _).app1 hown5 hgrow5)
          clear hown5 hgrow5
          go_wp2
          go_roundw
          case rel => exact ⟨k + 1, _, false, by omega, by go_num, rfl, HX5.out, HZ.out, by simp only [List.length_append, List.length_singleton]; omega⟩
          case measure => simp [intOf]; omega
        | false =>
          by_cases hxs : x = s
          · have HZ : Hid ((done ++ [s]) ++ wGo s true (l.drop (k + 1)) = wGo s false l) := by show _ = _; rw [← hg]; rw [hxs] at hless; simp [hxs, hless]
            clear hg
            subst hxs
            go_wp2_with (first | (at_builtin; refine wpList_append_heir _ rfl (.tmp 24) (.tmp 26) 68 rfl w.heap.size 9 i0 (.string ByteArray.empty) 1 16 Tryd.underlying68 hi hz0 hz1 hz2 rfl (by decide) _ _ _ rfl (HX.out.own.alloc _) ⟨wr.heap.size, 0, none⟩ 1 1 [.string _] rfl rfl (one_news _ _ _) (one_cell _) (by unfold maxLen; first | omega | (simp only [List.length_append, List.length_singleton]; omega)) (by first | omega | (simp only [List.length_append, List.length_singleton]; omega)) (by simp; omega) ?_))
            intro v5 w5 hown5 hgrow5 _
            have HX5 := hide ((HX.out.alloc _).app1 hown5 hgrow5)
            clear hown5 hgrow5
            have c2 := (HX5.out.below.cell (p := ⟨b, vo + k, none⟩) hb).trans ((HX.out.below.cell (p := ⟨b, vo + k, none⟩) hb).symm.trans c1)
            clear c1
            go_wp2
            go_roundw
            case rel => exact ⟨k + 1, _, true, by omega, by go_num, rfl, HX5.out, HZ.out, by simp only [List.length_append, List.length_singleton]; omega⟩
            case measure => simp [intOf]; omega
          · have hne := str_ne hxs
            have HZ : Hid ((done ++ [s] ++ [x]) ++ wGo s true (l.drop (k + 1)) = wGo s false l) := by show _ = _; rw [← hg]; simp [hxs, hless]
            clear hg
            go_wp2_with (first | (at_builtin; refine wpList_append_heir _ rfl (.tmp 24) (.tmp 26) 68 rfl w.heap.size 9 i0 (.string ByteArray.empty) 1 16 Tryd.underlying68 hi hz0 hz1 hz2 rfl (by decide) _ _ _ rfl (HX.out.own.alloc _) ⟨wr.heap.size, 0, none⟩ 1 1 [.string _] rfl rfl (one_news _ _ _) (one_cell _) (by unfold maxLen; first | omega | (simp only [List.length_append, List.length_singleton]; omega)) (by first | omega | (simp only [List.length_append, List.length_singleton]; omega)) (by simp; omega) ?_))
            intro v5 w5 hown5 hgrow5 _
            have HX5 := hide ((HX.out.alloc _).app1 hown5 hgrow5)
            have c2 := (HX5.out.below.cell (p := ⟨b, vo + k, none⟩) hb).trans ((HX.out.below.cell (p := ⟨b, vo + k, none⟩) hb).symm.trans c1)
            have hws5 : w.heap.size ≤ w5.heap.size := HX5.out.below.size
            clear hown5 hgrow5 c1
            go_wp2_with (first | (at_builtin; refine wpList_append_heir _ rfl (.tmp 34) (.tmp 39) 68 rfl w.heap.size 9 i0 (.string ByteArray.empty) 1 16 Tryd.underlying68 hi hz0 hz1 hz2 rfl (by decide) _ _ _ rfl (HX5.out.own.alloc _) ⟨w5.heap.size, 0, none⟩ 1 1 [.string x] rfl rfl (one_news _ _ _) (one_cell _) (by unfold maxLen; first | omega | (simp only [List.length_append, List.length_singleton]; omega)) (by first | omega | (simp only [List.length_append, List.length_singleton]; omega)) (by simp; omega) ?_))
            intro v6 w6 hown6 hgrow6 _
            have HX6 := hide ((HX5.out.alloc _).app1 hown6 hgrow6)
            clear hown6 hgrow6
            go_wp2
            go_roundw
            case rel => exact ⟨k + 1, _, true, by omega, by go_num, rfl, HX6.out, HZ.out, by simp only [List.length_append, List.length_singleton]; omega⟩
            case measure => simp [intOf]; omega
    · have hke : k = l.length := by omega
      have hg := HG.out
      rw [hke, List.drop_length] at hg
      clear HG hke
      cases bb with
      | true =>
        have HZ : Hid (done = wGo s false l) := by show done = _; rw [← hg]; simp [wGo]
        clear hg
        go_wp2
        go_ret
        obtain ⟨b', h1, _, h3⟩ := HX.out.texts (by rw [HZ.out]; exact wGo_pos s l)
        exact ⟨_, b', rfl, by rw [← HZ.out]; exact h1, h3, HX.out.below⟩
      | false =>
        have HZ : Hid (done ++ [s] = wGo s false l) := by show _ = _; rw [← hg]; simp [wGo]
        clear hg
        have hc3 : done.length + 1 ≤ 1000000 := by omega
        go_wp2_with (first | (at_builtin; refine wpList_append_heir _ rfl (.tmp 43) (.tmp 45) 68 rfl w.heap.size 9 i0 (.string ByteArray.empty) 1 16 Tryd.underlying68 hi hz0 hz1 hz2 rfl (by decide) _ _ _ rfl (HX.out.own.alloc _) ⟨wr.heap.size, 0, none⟩ 1 1 [.string _] rfl rfl (one_news _ _ _) (one_cell _) (by unfold maxLen; first | omega | (simp only [List.length_append, List.length_singleton]; omega)) (by first | omega | (simp only [List.length_append, List.length_singleton]; omega)) (by simp; omega) ?_))
        intro v5 w5 hown5 hgrow5 _
        have HX5 := hide ((HX.out.alloc _).app1 hown5 hgrow5)
        clear hown5 hgrow5
        go_wp2
        go_ret
        obtain ⟨b', h1, _, h3⟩ := HX5.out.texts (by rw [HZ.out]; exact wGo_pos s l)
        exact ⟨_, b', rfl, by rw [← HZ.out]; exact h1, h3, HX5.out.below⟩
end Go.Proofs.YtcidgfdiacehmaaDoor

/- The reference: Texts. -/
namespace Go.Proofs.YtcidgfdiacehmaaDoor
open Go.RowKit Go.Lib

theorem foldTexts_app (acc l m : List ByteArray) : foldTexts acc (l ++ m) = foldTexts (foldTexts acc l) m := by simp [foldTexts]
theorem foldTexts_two (acc : List ByteArray) (x y : ByteArray) : foldTexts acc [x, y] = wGo y false (wGo x false acc) := rfl
theorem TextsAt.some {w : World} {v : Value} {b n : Nat} {l : List ByteArray} (h : TextsAt w v b l) (hb : l ≠ [] → b < n) (h0 : 0 < n) : ∃ c, TextsAt w v c l ∧ c < n := by
  by_cases e : l = []
  · refine ⟨0, ⟨.inl ⟨e, ?_⟩⟩, h0⟩
    rcases h.shape with ⟨_, h⟩ | ⟨o, c, hv, _⟩
    · exact h
    · exact ⟨_, c, by rw [hv, e]; rfl⟩
  · exact ⟨b, h, hb e⟩
theorem TextsAt.below {w w' : World} {v : Value} {b : Nat} {l : List ByteArray} (h : TextsAt w v b l) (hb : Below w.heap.size w w') (hlt : b < w.heap.size) : TextsAt w' v b l := h.kept (hb.block b hlt)

set_option maxRecDepth 100000 in
set_option maxHeartbeats 1000000 in
theorem refTexts_any (B : Nat) (v : Value) (bs : List Ser) (w : World) (hS : BatchAt w B v bs) (hB : B ≤ w.heap.size) (hbl : bs.length ≤ 8) (hll : ∀ s ∈ bs, s.1.length ≤ 4) :
    Calls Tryd.prog 35 #[v] w fun e w' => ∃ o b, e = .returned o ∧ TextsAt w' o b (sortedTexts (allTexts bs)) ∧ (sortedTexts (allTexts bs) ≠ [] → b < w'.heap.size) ∧ Below w.heap.size w w' := by
  obtain ⟨a, c, rfl, _⟩ := id hS
  have HS := hide hS
  have HL := hide hll
  clear hS hll
  have HFin := hide (foldTexts_is (allTexts bs))
  go_enter Tryd.func35, Tryd.ntmps35
  go_wp2
  go_loopw [3, 4, 5] (fun o i _ wr => ∃ (k b' : Nat) (acc : List ByteArray), k ≤ bs.length ∧ i = .int .i64 k ∧ Below w.heap.size w wr ∧ acc.length ≤ 8 * k ∧ Hid (acc = foldTexts [] (allTexts (bs.take k))) ∧ Hid (TextsAt wr o b' acc) ∧ (acc ≠ [] → b' < wr.heap.size)) (fun _ i _ _ => bs.length - (intOf i).toNat)
  case atStart => exact ⟨0, 0, [], Nat.zero_le _, rfl, Below.refl _ _, Nat.le_refl _, rfl, ⟨.inl ⟨rfl, _, _, rfl⟩⟩, fun h => absurd rfl h⟩
  case round =>
    generalize wr = W0 at *
    obtain ⟨k, b', acc, hk, rfl, hbl0, hal, HA, HT, hbb⟩ := hrel
    have hsz := hbl0.size
    have HBl := hide hbl0
    clear hbl0
    by_cases hlt : k < bs.length
    · obtain ⟨⟨y1, y2⟩, hy⟩ : ∃ y, bs[k]? = some y := ⟨_, List.getElem?_eq_getElem hlt⟩
      have KS := HS.out.below HBl.out hB
      obtain ⟨b, o, la, lc, sa, sc, rfl, hb, c1, c2, hLa, hSa⟩ := KS.get hy
      have hbw : b < W0.heap.size := by omega
      have hl1 : y1.length ≤ 4 := HL.out _ (List.mem_of_getElem? hy)
      obtain ⟨b2, ht2, hb2⟩ := HT.out.some hbb (by omega)
      have HT2 := hide ht2
      have HY := hide hy
      have HLa := hide hLa
      clear hy KS hLa hSa ht2 HT hbb
      simp only at c1 c2
      go_wp2
      go_loopw [3, 5] (fun o2 q wr2 => ∃ (t bq : Nat) (ac2 : List ByteArray), t ≤ y1.length ∧ q = .int .i64 t ∧ Below W0.heap.size W0 wr2 ∧ ac2.length ≤ 8 * k + 2 * t ∧ Hid (ac2 = foldTexts acc (labTexts (y1.take t))) ∧ Hid (TextsAt wr2 o2 bq ac2) ∧ bq < wr2.heap.size) (fun _ q _ => y1.length - (intOf q).toNat)
      case atStart => exact ⟨0, b2, acc, Nat.zero_le _, rfl, Below.refl _ _, by omega, rfl, HT2.out, hb2⟩
      case round =>
        obtain ⟨t, bq, ac2, ht, rfl, hbx, hal2, HA2, HTq, hbq⟩ := hrel
        have hsx := hbx.size
        have HBx := hide hbx
        have m1 := (hbx.cell (p := ⟨b, o + k * 2, none⟩) hbw).trans c1
        clear hbx
        by_cases hlt2 : t < y1.length
        · obtain ⟨⟨p1, p2⟩, hp⟩ : ∃ p, y1[t]? = some p := ⟨_, List.getElem?_eq_getElem hlt2⟩
          have KL := HLa.out.below HBx.out (by omega)
          obtain ⟨lb, lo, rfl, hlb, e1, e2⟩ := KL.get hp
          have hlbw : lb < wr.heap.size := by omega
          have HP : Hid (foldTexts acc (labTexts (y1.take (t + 1))) = wGo p2 false (wGo p1 false ac2)) := by
            show _ = _
            rw [labTexts_take y1 t _ hp, foldTexts_app, ← HA2.out]; rfl
          have hw1 := wGo_len p1 ac2 false
          have hw2 := wGo_len p2 (wGo p1 false ac2) false
          obtain ⟨ov, oc, rfl⟩ : ∃ ov oc, u3 = .slice ov ac2.length oc := by
            rcases HTq.out.shape with ⟨h, a, c, h2⟩ | ⟨o, c, h2, _⟩
            · exact ⟨a, c, by rw [h2, h]; rfl⟩
            · exact ⟨_, c, h2⟩
          have C1 := hide (refWith_any _ bq ac2 p1 wr HTq.out hbq (by omega))
          clear hp KL
          simp only at e1 e2
          go_wp2_with fail
          refine C1.out.mono ?_
          rintro e w1 ⟨o1, b1, rfl, ht1, hb1, hbw1⟩
          have hs1 := hbw1.size
          have n1 := (hbw1.cell (p := ⟨b, o + k * 2, none⟩) (by show b < wr.heap.size; omega)).trans m1
          have f2 := (hbw1.cell (p := ⟨lb, lo + t * 2 + 1, none⟩) hlbw).trans e2
          have C2 := hide (refWith_any _ b1 _ p2 w1 ht1 hb1 (by omega))
          obtain ⟨ov1, oc1, rfl⟩ : ∃ ov oc, o1 = .slice ov (wGo p1 false ac2).length oc := by
            rcases ht1.shape with ⟨h, a, c, h2⟩ | ⟨o, c, h2, _⟩
            · exact ⟨a, c, by rw [h2, h]; rfl⟩
            · exact ⟨_, c, h2⟩
          have HB1 := hide hbw1
          clear ht1 hbw1 m1 e1 e2 C1
          go_wp2_with fail
          refine C2.out.mono ?_
          rintro e w2 ⟨o3, b3, rfl, ht3, hb3, hbw3⟩
          have HB3 := hide (HBx.out.trans ((HB1.out.trans (hbw3.mono hs1)).mono hsx))
          have HT3 := hide ht3
          clear ht3 hbw3 n1 f2 C2
          go_wp2
          go_roundw
          case rel => exact ⟨t + 1, b3, _, by omega, by go_num, HB3.out, by omega, HP.out.symm, HT3.out, hb3⟩
          case measure => simp [intOf]; omega
        · have hte : t = y1.length := by omega
          have HA3 : Hid (ac2 = foldTexts [] (allTexts (bs.take (k + 1)))) := by
            show _ = _
            rw [HA2.out, hte, List.take_length, allTexts_take bs k _ HY.out, foldTexts_app, ← HA.out]
          have HB3 := hide (HBl.out.trans (HBx.out.mono hsz))
          clear hte HA2 HA
          go_wp2
          go_roundw
          case rel => exact ⟨k + 1, bq, ac2, by omega, by go_num, HB3.out, by omega, HA3.out, HTq.out, fun _ => hbq⟩
          case measure => simp [intOf]; omega
    · have hke : k = bs.length := by omega
      have HE : Hid (acc = sortedTexts (allTexts bs)) := by show _ = _; rw [HA.out, hke, List.take_length, HFin.out]
      clear hke HA
      go_wp2
      go_ret
      exact ⟨_, b', rfl, by rw [← HE.out]; exact HT.out, by rw [← HE.out]; exact hbb, HBl.out⟩
end Go.Proofs.YtcidgfdiacehmaaDoor

/- The reference: Chunk. -/
namespace Go.Proofs.YtcidgfdiacehmaaDoor
open Go.RowKit Go.Lib

theorem xor_zero_eq {a b : Nat} (h : a ^^^ b = 0) : a = b := by
  have := congrArg (· ^^^ b) h
  simpa [Nat.xor_assoc] using this
theorem bitBits_zero (a z x : Nat) (h : x = 0) : bitBits a z x = [false] := by subst h; simp [bitBits, wayOf, markOf]
theorem next_zero (a z x : Nat) (h : x = 0) : nextA a z x = a ∧ nextZ a z x = z := by subst h; simp [nextA, nextZ, wayOf]
theorem way_holds {a z X : Nat} (h0 : X ≠ 0) (h : 0 < z ∧ a ≤ lz X ∧ (64 : Int) - a - z ≤ tz X) : wayOf a z X = 1 := by
  unfold wayOf holdsB; rw [if_neg h0, if_pos]; simp [h.1, h.2.1, h.2.2]
theorem way_not {a z X : Nat} (h0 : X ≠ 0) (h : ¬ (0 < z ∧ a ≤ lz X ∧ (64 : Int) - a - z ≤ tz X)) : wayOf a z X = 2 := by
  unfold wayOf holdsB; rw [if_neg h0, if_neg]; intro hh; apply h; simpa [Bool.and_eq_true] using hh
theorem bits_way1 {a z X : Nat} (h : wayOf a z X = 1) : [true, false] ++ Pl.bitsOf (X / 2 ^ (64 - a - z)) z = bitBits a z X := by unfold bitBits; rw [h]; rfl
theorem next_keep {a z X : Nat} (h : wayOf a z X = 1) : nextA a z X = a ∧ nextZ a z X = z := by unfold nextA nextZ; rw [h]; exact ⟨rfl, rfl⟩
theorem bits_way2 {a z X : Nat} (h : wayOf a z X = 2) : bitBits a z X = [true, true] ++ (Pl.bitsOf (newAhead X) 5 ++ (Pl.bitsOf (newSize X - 1) 6 ++ Pl.bitsOf (X / 2 ^ (64 - newAhead X - newSize X)) (newSize X))) := by unfold bitBits; rw [h]; simp [winBits, markOf]
theorem next_new {a z X : Nat} (h : wayOf a z X = 2) : nextA a z X = newAhead X ∧ nextZ a z X = newSize X := by unfold nextA nextZ; rw [h]; exact ⟨rfl, rfl⟩

/-- The K lowest bits of a number as a text. -/
def bwI (X K : Int) : ByteArray := zoS (Pl.bitsOf X.toNat K.toNat)
theorem bwI_size (X K : Int) : (bwI X K).size = K.toNat := by rw [bwI, zoS_size, Pl.bitsOf_length]
theorem bwI_any (X K : Int) (w : World) (h0 : 0 ≤ X) (h1 : X ≤ 18446744073709551615) (k0 : 0 ≤ K) (k1 : K ≤ 64) :
    Calls Tryd.prog 53 #[.int .u64 X, .int .i64 K] w fun e w' => e = .returned (.string (bwI X K)) ∧ Below w.heap.size w w' :=
  refBits_int X K X.toNat K.toNat w (by omega) (by omega) (by omega) (by omega)

/-- The two numbers of a window. -/
theorem bits_two (N M : Nat) (hN : N ≤ 64) (hM : M ≤ 64) (Y K : Int) (w : World) (h5 : K = 5 → Y = N) (h6 : K = 6 → Y = M) (h : K = 5 ∨ K = 6) :
    Calls Tryd.prog 53 #[.int .u64 Y, .int .i64 K] w fun e w' => e = .returned (.string (if K = 5 then bwI N 5 else bwI M 6)) ∧ Below w.heap.size w w' := by
  rcases h with rfl | rfl
  · rw [h5 rfl, if_pos rfl]; exact bwI_any _ _ _ (by omega) (by omega) (by omega) (by omega)
  · rw [h6 rfl, if_neg (by decide)]; exact bwI_any _ _ _ (by omega) (by omega) (by omega) (by omega)

set_option maxRecDepth 100000 in
set_option maxHeartbeats 40000000 in
theorem refChunk_any (B : Nat) (v : Value) (x : Int × Nat) (r : List (Int × Nat)) (w : World) (hS : SamplesAt w B v (x :: r)) (hB : B ≤ w.heap.size) (hr : r.length ≤ 300) :
    Calls Tryd.prog 39 #[v] w fun e w' => e = .returned (.string (zoS (chunkBits (x :: r)))) ∧ Below w.heap.size w w' := by
  obtain ⟨a, cap, rfl, hcap, hwf, h2⟩ := hS
  rcases h2 with h2 | ⟨b, o, rfl, hb, hcell⟩
  · cases h2
  obtain ⟨ti, bi⟩ := x
  have k0 := (hcell 0 _ rfl).1
  have k1 := (hcell 0 _ rfl).2
  simp only [Nat.zero_mul, Nat.add_zero] at k0 k1
  have hbi : bi ≤ 18446744073709551615 := (hwf (ti, bi) (List.mem_cons_self ..)).2.2
  have hbw : b < w.heap.size := by omega
  have hwt := wrap_u64_int ti
  have HC := hide hcell
  have HW := hide hwf
  have hut := u64_le ti
  have hu1 : (0 : Int) ≤ (u64 ti : Int) := by omega
  have hu2 : (u64 ti : Int) ≤ 18446744073709551615 := by omega
  have C := hide bsI_any
  have hsb := bsI_size
  have HZ : Hid (bsI (u64 ti) ++ bsI bi = zoS (Pl.bitsOf (u64 ti) 64 ++ Pl.bitsOf bi 64)) := by
    show _ = _
    rw [← zoS_append]; rfl
  simp only [List.length_cons] at hcap ⊢
  clear hcell hwf
  go_enter Tryd.func39, Tryd.ntmps39
  go_wp2
  go_region_held3 (fun w' => w'.cell? ⟨b, o, none⟩ = some (.int .i64 ti) ∧ w'.cell? ⟨b, o + 1, none⟩ = some (.int .u64 bi)) (go_keep) (first | (go_at_call 53; refine (C.out _ _ (by first | omega | (rw [hwt]; omega)) (by first | omega | (rw [hwt]; omega))).mono ?_; first | (rintro e w3 ⟨rfl, hb3⟩; have f1 := (hb3.cell (p := ⟨b, o, none⟩) (by show b < w2.heap.size; omega)).trans e1; have f2 := (hb3.cell (p := ⟨b, o + 1, none⟩) (by show b < w2.heap.size; omega)).trans e2; have hs3 := hb3.size) | (rintro e w2 ⟨rfl, hb2⟩; have e1 := (hb2.cell (p := ⟨b, o, none⟩) (by show b < w.heap.size; omega)).trans k0; have e2 := (hb2.cell (p := ⟨b, o + 1, none⟩) (by show b < w.heap.size; omega)).trans k1; have hs2 : w.heap.size ≤ w2.heap.size := hb2.size)))
  all_goals
    have HB3 := hide ((Below.refl w.heap.size w).drew.trans (hb2.trans (hb3.mono (by show w.heap.size ≤ w2.heap.size; omega))))
    have hpre : (bsI (u64 ti) ++ bsI bi).size = 128 := by rw [ByteArray.size_append, bsI_size, bsI_size]
    clear hb2 hb3 e1 e2 f1 f2 k0 k1
    generalize bsI (u64 ti) ++ bsI bi = sp at *
    as_aux_lemma =>
      go_wp2
      go_loopw [3, 4, 5, 6, 7, 8, 9, 10, 11] (fun sv dv lv zv i _ _ _ _ wr => ∃ (k : Nat) (done : List Bool) (sb : ByteArray) (tp : Int) (bp s a z : Nat), k ≤ r.length ∧ i = .int .i64 ((k + 1 : Nat) : Int) ∧ sv = .string sb ∧ dv = .int .u64 s ∧ lv = .int .i64 a ∧ zv = .int .i64 z ∧ Below w.heap.size w wr ∧
          s ≤ 18446744073709551615 ∧ a + z ≤ 64 ∧ done.length ≤ 150 * k ∧ sb.size ≤ 128 + 150 * k ∧ Hid (((ti, bi) :: r)[k]? = some (tp, bp)) ∧ Hid (sb = zoS (Pl.bitsOf (u64 ti) 64 ++ Pl.bitsOf bi 64 ++ done)) ∧ Hid (done ++ goBits (u64 tp) s bp a z (r.drop k) = goBits (u64 ti) 0 bi 0 0 r)) (fun _ _ _ _ i _ _ _ _ _ => r.length + 1 - (intOf i).toNat)
      case atStart => exact ⟨0, [], sp, ti, bi, 0, 0, 0, Nat.zero_le _, rfl, rfl, rfl, rfl, rfl, HB3.out, by omega, by omega, by simp, by omega, rfl, by show _ = _; rw [HZ.out, List.append_nil], rfl⟩
      case round =>
        obtain ⟨k, done, sb, tp, bp, s, a, z, hk, rfl, rfl, rfl, rfl, rfl, hBl, hs, haz, hdl, hsl, HP, HS, HG⟩ := hrel
        clear HB3 hpre HZ
        by_cases hlt : k < r.length
        · obtain ⟨⟨tk, bk⟩, hrk⟩ : ∃ y, r[k]? = some y := ⟨_, List.getElem?_eq_getElem hlt⟩
          have hyk := HW.out (tk, bk) (List.mem_cons_of_mem _ (List.mem_of_getElem? hrk))
          have hyp := HW.out (tp, bp) (List.mem_of_getElem? HP.out)
          have hck := HC.out (k + 1) (tk, bk) (by simpa using hrk)
          have hcp := HC.out k (tp, bp) HP.out
          have c1 : wr.cell? ⟨b, o + (k + 1) * 2, none⟩ = some (.int .i64 tk) := (hBl.cell (p := ⟨b, o + (k + 1) * 2, none⟩) hbw).trans hck.1
          have c2 : wr.cell? ⟨b, o + (k + 1) * 2 + 1, none⟩ = some (.int .u64 bk) := (hBl.cell (p := ⟨b, o + (k + 1) * 2 + 1, none⟩) hbw).trans hck.2
          have d1 : wr.cell? ⟨b, o + k * 2, none⟩ = some (.int .i64 tp) := (hBl.cell (p := ⟨b, o + k * 2, none⟩) hbw).trans hcp.1
          have d2 : wr.cell? ⟨b, o + k * 2 + 1, none⟩ = some (.int .u64 bp) := (hBl.cell (p := ⟨b, o + k * 2 + 1, none⟩) hbw).trans hcp.2
          have hwk := wrap_u64_int tk
          have hwp := wrap_u64_int tp
          have hbk : bk ≤ 18446744073709551615 := hyk.2.2
          have hbp : bp ≤ 18446744073709551615 := hyp.2.2
          have hj1 : (k : Int) < (r.length : Int) + 1 := by omega
          have hj2 : (0 : Int) ≤ (k : Int) := by omega
          have hi0 : (0 : Int) ≤ ((k + 1 : Nat) : Int) := by omega
          have hi1 : ((k + 1 : Nat) : Int) < (r.length : Int) + 1 := by omega
          have hi3 : (0 : Int) ≤ (k : Int) + 1 := by omega
          have hi4 : (k : Int) + 1 < (r.length : Int) + 1 := by omega
          have hi5 : ((k : Int) + 1).toNat = k + 1 := by omega
          have hi6 : IntKind.i64.wrap ((k : Int) + 1) = (k : Int) + 1 := by rw [IntKind.wrap_i64]; omega
          have hi2 : IntKind.i64.wrap ((k + 1 : Nat) : Int) = ((k + 1 : Nat) : Int) := by rw [IntKind.wrap_i64]; omega
          have hjw : IntKind.i64.wrap (k : Int) = (k : Int) := by rw [IntKind.wrap_i64]; omega
          have hjw2 : IntKind.i64.wrap (((k + 1 : Nat) : Int) - 1) = (k : Int) := by rw [IntKind.wrap_i64]; omega
          have hw1 := wrap_times tk tp
          have HR := hide hrk
          have HBl := hide hBl
          clear hyk hyp hck hcp hrk hBl
          go_wp2
          go_quiet (fail)
          go_wp2_with fail
          have hdd : sub64 (Go.Proofs.YtcidgfdiacehmaaDoor.u64 tk) (Go.Proofs.YtcidgfdiacehmaaDoor.u64 tp) ≤ 18446744073709551615 := sub64_le _ _
          have he := step_eq (done := done) (t := Go.Proofs.YtcidgfdiacehmaaDoor.u64 tp) (s := s) (b := bp) (a := a) (z := z) HR.out HG.out
          have hd := step_len (t := Go.Proofs.YtcidgfdiacehmaaDoor.u64 tp) (s := s) (b := bp) (a := a) (z := z) (y := (tk, bk)) hdl (by omega)
          simp only at he hd
          have HE := hide he
          have HD := hide hd
          have HR2 : Hid (((ti, bi) :: r)[k + 1]? = some (tk, bk)) := by show _ = _; simpa using HR.out
          clear he hd
          have HTB := hide (timeBits_step (Go.Proofs.YtcidgfdiacehmaaDoor.u64 tp) s (Go.Proofs.YtcidgfdiacehmaaDoor.u64 tk))
          generalize sub64 (Go.Proofs.YtcidgfdiacehmaaDoor.u64 tk) (Go.Proofs.YtcidgfdiacehmaaDoor.u64 tp) = dd at *
          have hse : sub64 dd s ≤ 18446744073709551615 := sub64_le _ _
          refine (refStep_int _ (sub64 dd s) _ (wrap_sub64 dd s hs) hse).mono ?_
          rintro e w4 ⟨rfl, hb4⟩
          have hs4 : w.heap.size ≤ w4.heap.size := Nat.le_trans HBl.out.size hb4.size
          have hsr : w.heap.size ≤ wr.heap.size := HBl.out.size
          have g1 := (Below.cell hb4 (p := ⟨b, o + (k + 1) * 2 + 1, none⟩) (by show b < wr.heap.size; omega)).trans c2; have g2 := (Below.cell hb4 (p := ⟨b, o + k * 2 + 1, none⟩) (by show b < wr.heap.size; omega)).trans d2
          have HB4 := hide ((below_drewN HBl.out _).trans (hb4.mono (by show w.heap.size ≤ wr.heap.size; omega)))
          have hst : (zoS (stepBits (sub64 dd s))).size ≤ 69 := by rw [zoS_size]; exact stepBits_len _
          have HS4 : Hid (sb ++ zoS (stepBits (sub64 dd s)) = zoS (Pl.bitsOf (Go.Proofs.YtcidgfdiacehmaaDoor.u64 ti) 64 ++ Pl.bitsOf bi 64 ++ done ++ stepBits (sub64 dd s))) := by show _ = _; rw [HS.out, zoS_append]
          have hsz4 : (sb ++ zoS (stepBits (sub64 dd s))).size ≤ 128 + 150 * k + 69 := by rw [ByteArray.size_append]; omega
          have HN : Hid (∀ q, q = zoS (bitBits a z (bk ^^^ bp)) → (sb ++ zoS (stepBits (sub64 dd s))) ++ q = zoS (Pl.bitsOf (Go.Proofs.YtcidgfdiacehmaaDoor.u64 ti) 64 ++ Pl.bitsOf bi 64 ++ (done ++ (timeBits (Go.Proofs.YtcidgfdiacehmaaDoor.u64 tp) s (Go.Proofs.YtcidgfdiacehmaaDoor.u64 tk) ++ bitBits a z (bk ^^^ bp))))) := by
            intro q hq
            rw [HS4.out, hq, zoS_append, HTB.out]; simp only [List.append_assoc]
          have HQ : Hid ((bitBits a z (bk ^^^ bp)).length ≤ 78) := by
            have := bitBits_app [] a z (bk ^^^ bp) (by omega)
            show _ ≤ _
            simpa using this
          generalize zoS (stepBits (sub64 dd s)) = st at *
          have hno4 : ¬ 9223372036854775807 < sb.size + st.size := by omega
          have hx := bits_xor_u64_is bk bp hbk hbp
          have hX : bk ^^^ bp < 2 ^ 64 := Nat.xor_lt_two_pow (by omega) (by omega)
          have C3 : Hid (∀ (Y : Int) (W : World), Y = ((bk ^^^ bp : Nat) : Int) → Calls Tryd.prog 53 #[.int .u64 Y, .int .i64 64] W fun e w' => e = .returned (.string (zoS (Pl.bitsOf (bk ^^^ bp) 64))) ∧ Below W.heap.size W w') := fun Y W hY => refBits_int Y 64 (bk ^^^ bp) 64 W hY rfl (by omega) (by decide)
          clear hb4 c1 c2 d1 d2 HBl HS hwk hwp hw1 HR HG
          go_wp2
          as_aux_lemma =>
            go_region_held3 (fun w' => w'.cell? ⟨b, o + (k + 1) * 2 + 1, none⟩ = some (.int .u64 bk) ∧ w'.cell? ⟨b, o + k * 2 + 1, none⟩ = some (.int .u64 bp)) (go_keep) (first | (go_at_call 53; refine (C3.out _ _ (by first | rfl | exact hx)).mono ?_; rintro e w5 ⟨rfl, hb5⟩; have m1 := (Below.cell hb5 (p := ⟨b, o + (k + 1) * 2 + 1, none⟩) (by show b < w4.heap.size; omega)).trans g1; have m2 := (Below.cell hb5 (p := ⟨b, o + k * 2 + 1, none⟩) (by show b < w4.heap.size; omega)).trans g2))
            all_goals
              have HB5 := hide (HB4.out.drew.trans (hb5.mono (by show w.heap.size ≤ w4.heap.size; omega)))
              have hs5 : w.heap.size ≤ w5.heap.size := Nat.le_trans hs4 hb5.size
              clear hb5 g1 g2 HB4 C3 hx
              by_cases heq : bk = bp
              · have hv := congrArg zoS (bitBits_zero a z (bk ^^^ bp) (by rw [heq, Nat.xor_self]))
                have hn := next_zero a z (bk ^^^ bp) (by rw [heq, Nat.xor_self])
                have HV := hide (HN.out ⟨#[48]⟩ hv.symm)
                rw [hn.1, hn.2] at HE
                have hbb : ((bk : Int) == (bp : Int)) = true := by rw [heq]; simp
                have hno5 : ¬ 9223372036854775807 < sb.size + st.size + 1 := by omega
                clear hv hn heq HQ HN HTB HS4
                go_wp2
                go_quiet (fail)
                go_wp2
                go_roundw
                case rel => exact ⟨k + 1, _, _, tk, bk, dd, a, z, by omega, by go_num, rfl, rfl, rfl, rfl, below_drewN HB5.out _, hdd, haz, HD.out, by rw [ByteArray.size_append]; show _ + 1 ≤ _; omega, HR2.out, HV.out, HE.out⟩
                case measure => simp [intOf]; omega
              · have hX0 : bk ^^^ bp ≠ 0 := fun h => heq (xor_zero_eq h)
                have hne : ((bk : Int) == (bp : Int)) = false := by simp; omega
                go_wp2
                go_quiet (fail)
                go_wp2_with fail
                refine (count_any (bk ^^^ bp) _ hX0 hX).mono ?_
                rintro e w6 ⟨rfl, rfl⟩
                have hlz := lz_tz (bk ^^^ bp) hX0 hX
                have hxs : (zoS (Pl.bitsOf (bk ^^^ bp) 64)).size = 64 := by rw [zoS_size, Pl.bitsOf_length]
                by_cases hH : 0 < z ∧ a ≤ lz (bk ^^^ bp) ∧ (64 : Int) - a - z ≤ tz (bk ^^^ bp)
                · have hway : wayOf a z (bk ^^^ bp) = 1 := way_holds hX0 hH
                  have hcut := cut_bits (bk ^^^ bp) a z haz
                  have HV : Hid ((sb ++ st) ++ (zoS [true, false] ++ (zoS (Pl.bitsOf (bk ^^^ bp) 64)).extract a (a + z)) = _) := HN.out _ (by rw [hcut, zoS_append, bits_way1 hway])
                  have hn := next_keep hway
                  rw [hn.1, hn.2] at HE
                  have hel : ((zoS (Pl.bitsOf (bk ^^^ bp) 64)).extract a (a + z)).size = z := by rw [hcut, zoS_size, Pl.bitsOf_length]
                  obtain ⟨h1, h2, h3⟩ := hH
                  clear hcut hn hway HN HQ HTB HS4
                  generalize lz (bk ^^^ bp) = L at *
                  generalize tz (bk ^^^ bp) = T at *
                  generalize zoS (Pl.bitsOf (bk ^^^ bp) 64) = xs at *
                  have hno5 : ¬ 9223372036854775807 < sb.size + st.size + 2 := by omega
                  have hno6 : ¬ 9223372036854775807 < sb.size + st.size + 2 + z := by omega
                  have q1 : (a : Int) ≤ (a : Int) + z := by omega
                  have q2 : (a : Int) + z ≤ 64 := by omega
                  have q3 : ((a : Int) + z).toNat = a + z := by omega
                  have q4 : (0 : Int) < z := by omega
                  have q5 : (a : Int) ≤ L := by omega
                  go_wp2
                  go_roundw
                  case rel => exact ⟨k + 1, _, _, tk, bk, dd, a, z, by omega, by go_num, rfl, rfl, rfl, rfl, below_drewN HB5.out _, hdd, haz, HD.out, by rw [ByteArray.size_append, ByteArray.size_append, hel]; show _ + 2 + _ ≤ _; omega, HR2.out, by rw [ByteArray.append_assoc]; exact HV.out, HE.out⟩
                  case measure => simp [intOf]; omega
                · have hway := way_not hX0 hH
                  have hnb := new_bounds (bk ^^^ bp) hX0 hX
                  have hn := next_new hway
                  rw [hn.1, hn.2] at HE
                  have hcut := cut_bits (bk ^^^ bp) (newAhead (bk ^^^ bp)) (newSize (bk ^^^ bp)) (by omega)
                  have hel : ((zoS (Pl.bitsOf (bk ^^^ bp) 64)).extract (newAhead (bk ^^^ bp)) (newAhead (bk ^^^ bp) + newSize (bk ^^^ bp))).size = newSize (bk ^^^ bp) := by rw [hcut, zoS_size, Pl.bitsOf_length]
                  have HV := hide (HN.out (zoS [true, true] ++ (zoS (Pl.bitsOf (newAhead (bk ^^^ bp)) 5) ++ (zoS (Pl.bitsOf (newSize (bk ^^^ bp) - 1) 6) ++ (zoS (Pl.bitsOf (bk ^^^ bp) 64)).extract (newAhead (bk ^^^ bp)) (newAhead (bk ^^^ bp) + newSize (bk ^^^ bp))))) (by rw [hcut, zoS_append, zoS_append, zoS_append, bits_way2 hway]))
                  have hA : newAhead (bk ^^^ bp) = min (lz (bk ^^^ bp)) 31 := rfl
                  have hb5 : bwI (newAhead (bk ^^^ bp) : Int) 5 = zoS (Pl.bitsOf (newAhead (bk ^^^ bp)) 5) := rfl
                  have hb6 : bwI ((newSize (bk ^^^ bp) - 1 : Nat) : Int) 6 = zoS (Pl.bitsOf (newSize (bk ^^^ bp) - 1) 6) := rfl
                  rw [← hb5, ← hb6] at HV
                  have hl5 : (bwI (newAhead (bk ^^^ bp) : Int) 5).size = 5 := bwI_size _ _
                  have hl6 : (bwI ((newSize (bk ^^^ bp) - 1 : Nat) : Int) 6).size = 6 := bwI_size _ _
                  have CB := hide (bits_two (newAhead (bk ^^^ bp)) (newSize (bk ^^^ bp) - 1) (by omega) (by omega))
                  clear hcut hn hway HN HQ HTB HS4 hb5 hb6
                  generalize bwI (newAhead (bk ^^^ bp) : Int) 5 = s5 at *
                  generalize bwI ((newSize (bk ^^^ bp) - 1 : Nat) : Int) 6 = s6 at *
                  generalize newAhead (bk ^^^ bp) = N at *
                  generalize newSize (bk ^^^ bp) = Z at *
                  generalize lz (bk ^^^ bp) = L at *
                  generalize tz (bk ^^^ bp) = T at *
                  generalize zoS (Pl.bitsOf (bk ^^^ bp) 64) = xs at *
                  have hZ : (64 : Int) - N - T = Z := by omega
                  have hZ0 : 1 ≤ Z := by omega
                  have hN31 : N ≤ 31 := by omega
                  have hNZ : N + Z ≤ 64 := by omega
                  have hT : T ≤ 63 := by omega
                  have hno5 : ¬ 9223372036854775807 < sb.size + st.size + 2 := by omega
                  have hno6 : ¬ 9223372036854775807 < sb.size + st.size + 2 + 5 := by omega
                  have hno6b : ¬ 9223372036854775807 < sb.size + st.size + 2 + s5.size := by omega
                  have hno7 : ¬ 9223372036854775807 < sb.size + st.size + 2 + 5 + 6 := by omega
                  have hno7b : ¬ 9223372036854775807 < sb.size + st.size + 2 + s5.size + s6.size := by omega
                  have hno8 : ¬ 9223372036854775807 < sb.size + st.size + 2 + 5 + 6 + Z := by omega
                  have hno8b : ¬ 9223372036854775807 < sb.size + st.size + 2 + s5.size + s6.size + Z := by omega
                  have HZ := hide hZ
                  have q4 : N ≤ N + Z := by omega
                  have hLN : N = 31 ∧ 31 < L ∨ N = L ∧ L ≤ 31 := by omega
                  have hW : z = 0 ∨ (0 < z ∧ L < a) ∨ (0 < z ∧ a ≤ L ∧ (T : Int) < 64 - a - z) := by omega
                  clear hH hA hnb hZ
                  rcases hLN with ⟨rfl, hL⟩ | ⟨rfl, hL⟩
                  · have hZ : (33 : Int) - T = Z := by have := HZ.out; omega
                    have e1 : IntKind.i64.wrap ((31 : Int) + Z) = (31 : Int) + Z := by rw [IntKind.wrap_i64]; omega
                    have g1 : (31 : Int) ≤ 31 + Z := by omega
                    have g2 : (31 : Int) + Z ≤ 64 := by omega
                    have g3 : ((31 : Int) + Z).toNat = 31 + Z := by omega
                    rcases hW with rfl | ⟨hz, hLa⟩ | ⟨hz, hLa, hTa⟩
                    · go_wp2
                      go_region_held3 (fun _ => True) (exact trivial) (first | (go_at_call 53; refine (CB.out _ _ _ (by intro h; first | omega | (rw [IntKind.wrap_u64]; omega)) (by intro h; first | omega | (simp only [IntKind.wrap_u64, IntKind.wrap_i64]; omega)) (by omega)).mono ?_; first | (have hbx := hb7; clear hbx; rintro e w8 ⟨rfl, hb8⟩) | (rintro e w7 ⟨rfl, hb7⟩)))
                      have hs7 : w.heap.size ≤ w7.heap.size := Nat.le_trans hs5 hb7.size
                      have HB8 := hide (((below_drewN HB5.out _).drew.trans (hb7.mono (by show w.heap.size ≤ w5.heap.size; omega))).trans (hb8.mono (by show w.heap.size ≤ w7.heap.size; omega)))
                      clear hb7 hb8
                      go_wp2
                      go_roundw
                      case rel => exact ⟨k + 1, _, _, tk, bk, dd, 31, Z, by omega, by go_num, rfl, rfl, rfl, by first | rfl | rw [hZ], HB8.out, hdd, by omega, HD.out, by rw [ByteArray.size_append, ByteArray.size_append, ByteArray.size_append, ByteArray.size_append, hel, hl5, hl6]; show _ + 2 + 5 + 6 + _ ≤ _; omega, HR2.out, by rw [ByteArray.append_assoc, ByteArray.append_assoc, ByteArray.append_assoc]; exact HV.out, HE.out⟩
                      case measure => simp [intOf]; omega
                    · go_wp2
                      go_region_held3 (fun _ => True) (exact trivial) (first | (go_at_call 53; refine (CB.out _ _ _ (by intro h; first | omega | (rw [IntKind.wrap_u64]; omega)) (by intro h; first | omega | (simp only [IntKind.wrap_u64, IntKind.wrap_i64]; omega)) (by omega)).mono ?_; first | (have hbx := hb7; clear hbx; rintro e w8 ⟨rfl, hb8⟩) | (rintro e w7 ⟨rfl, hb7⟩)))
                      have hs7 : w.heap.size ≤ w7.heap.size := Nat.le_trans hs5 hb7.size
                      have HB8 := hide (((below_drewN HB5.out _).drew.trans (hb7.mono (by show w.heap.size ≤ w5.heap.size; omega))).trans (hb8.mono (by show w.heap.size ≤ w7.heap.size; omega)))
                      clear hb7 hb8
                      go_wp2
                      go_roundw
                      case rel => exact ⟨k + 1, _, _, tk, bk, dd, 31, Z, by omega, by go_num, rfl, rfl, rfl, by first | rfl | rw [hZ], HB8.out, hdd, by omega, HD.out, by rw [ByteArray.size_append, ByteArray.size_append, ByteArray.size_append, ByteArray.size_append, hel, hl5, hl6]; show _ + 2 + 5 + 6 + _ ≤ _; omega, HR2.out, by rw [ByteArray.append_assoc, ByteArray.append_assoc, ByteArray.append_assoc]; exact HV.out, HE.out⟩
                      case measure => simp [intOf]; omega
                    · go_wp2
                      go_region_held3 (fun _ => True) (exact trivial) (first | (go_at_call 53; refine (CB.out _ _ _ (by intro h; first | omega | (rw [IntKind.wrap_u64]; omega)) (by intro h; first | omega | (simp only [IntKind.wrap_u64, IntKind.wrap_i64]; omega)) (by omega)).mono ?_; first | (have hbx := hb7; clear hbx; rintro e w8 ⟨rfl, hb8⟩) | (rintro e w7 ⟨rfl, hb7⟩)))
                      have hs7 : w.heap.size ≤ w7.heap.size := Nat.le_trans hs5 hb7.size
                      have HB8 := hide (((below_drewN HB5.out _).drew.trans (hb7.mono (by show w.heap.size ≤ w5.heap.size; omega))).trans (hb8.mono (by show w.heap.size ≤ w7.heap.size; omega)))
                      clear hb7 hb8
                      go_wp2
                      go_roundw
                      case rel => exact ⟨k + 1, _, _, tk, bk, dd, 31, Z, by omega, by go_num, rfl, rfl, rfl, by first | rfl | rw [hZ], HB8.out, hdd, by omega, HD.out, by rw [ByteArray.size_append, ByteArray.size_append, ByteArray.size_append, ByteArray.size_append, hel, hl5, hl6]; show _ + 2 + 5 + 6 + _ ≤ _; omega, HR2.out, by rw [ByteArray.append_assoc, ByteArray.append_assoc, ByteArray.append_assoc]; exact HV.out, HE.out⟩
                      case measure => simp [intOf]; omega
                  · have hZ : (64 : Int) - N - T = Z := HZ.out
                    have e1 : IntKind.i64.wrap ((N : Int) + Z) = (N : Int) + Z := by rw [IntKind.wrap_i64]; omega
                    have g1 : (N : Int) ≤ N + Z := by omega
                    have g2 : (N : Int) + Z ≤ 64 := by omega
                    have g3 : ((N : Int) + Z).toNat = N + Z := by omega
                    have g4 : (0 : Int) ≤ (N : Int) := by omega
                    rcases hW with rfl | ⟨hz, hLa⟩ | ⟨hz, hLa, hTa⟩
                    · go_wp2
                      go_region_held3 (fun _ => True) (exact trivial) (first | (go_at_call 53; refine (CB.out _ _ _ (by intro h; first | omega | (rw [IntKind.wrap_u64]; omega)) (by intro h; first | omega | (simp only [IntKind.wrap_u64, IntKind.wrap_i64]; omega)) (by omega)).mono ?_; first | (have hbx := hb7; clear hbx; rintro e w8 ⟨rfl, hb8⟩) | (rintro e w7 ⟨rfl, hb7⟩)))
                      have hs7 : w.heap.size ≤ w7.heap.size := Nat.le_trans hs5 hb7.size
                      have HB8 := hide (((below_drewN HB5.out _).drew.trans (hb7.mono (by show w.heap.size ≤ w5.heap.size; omega))).trans (hb8.mono (by show w.heap.size ≤ w7.heap.size; omega)))
                      clear hb7 hb8
                      go_wp2
                      go_roundw
                      case rel => exact ⟨k + 1, _, _, tk, bk, dd, N, Z, by omega, by go_num, rfl, rfl, rfl, by first | rfl | rw [hZ], HB8.out, hdd, by omega, HD.out, by rw [ByteArray.size_append, ByteArray.size_append, ByteArray.size_append, ByteArray.size_append, hel, hl5, hl6]; show _ + 2 + 5 + 6 + _ ≤ _; omega, HR2.out, by rw [ByteArray.append_assoc, ByteArray.append_assoc, ByteArray.append_assoc]; exact HV.out, HE.out⟩
                      case measure => simp [intOf]; omega
                    · go_wp2
                      go_region_held3 (fun _ => True) (exact trivial) (first | (go_at_call 53; refine (CB.out _ _ _ (by intro h; first | omega | (rw [IntKind.wrap_u64]; omega)) (by intro h; first | omega | (simp only [IntKind.wrap_u64, IntKind.wrap_i64]; omega)) (by omega)).mono ?_; first | (have hbx := hb7; clear hbx; rintro e w8 ⟨rfl, hb8⟩) | (rintro e w7 ⟨rfl, hb7⟩)))
                      have hs7 : w.heap.size ≤ w7.heap.size := Nat.le_trans hs5 hb7.size
                      have HB8 := hide (((below_drewN HB5.out _).drew.trans (hb7.mono (by show w.heap.size ≤ w5.heap.size; omega))).trans (hb8.mono (by show w.heap.size ≤ w7.heap.size; omega)))
                      clear hb7 hb8
                      go_wp2
                      go_roundw
                      case rel => exact ⟨k + 1, _, _, tk, bk, dd, N, Z, by omega, by go_num, rfl, rfl, rfl, by first | rfl | rw [hZ], HB8.out, hdd, by omega, HD.out, by rw [ByteArray.size_append, ByteArray.size_append, ByteArray.size_append, ByteArray.size_append, hel, hl5, hl6]; show _ + 2 + 5 + 6 + _ ≤ _; omega, HR2.out, by rw [ByteArray.append_assoc, ByteArray.append_assoc, ByteArray.append_assoc]; exact HV.out, HE.out⟩
                      case measure => simp [intOf]; omega
                    · go_wp2
                      go_region_held3 (fun _ => True) (exact trivial) (first | (go_at_call 53; refine (CB.out _ _ _ (by intro h; first | omega | (rw [IntKind.wrap_u64]; omega)) (by intro h; first | omega | (simp only [IntKind.wrap_u64, IntKind.wrap_i64]; omega)) (by omega)).mono ?_; first | (have hbx := hb7; clear hbx; rintro e w8 ⟨rfl, hb8⟩) | (rintro e w7 ⟨rfl, hb7⟩)))
                      have hs7 : w.heap.size ≤ w7.heap.size := Nat.le_trans hs5 hb7.size
                      have HB8 := hide (((below_drewN HB5.out _).drew.trans (hb7.mono (by show w.heap.size ≤ w5.heap.size; omega))).trans (hb8.mono (by show w.heap.size ≤ w7.heap.size; omega)))
                      clear hb7 hb8
                      go_wp2
                      go_roundw
                      case rel => exact ⟨k + 1, _, _, tk, bk, dd, N, Z, by omega, by go_num, rfl, rfl, rfl, by first | rfl | rw [hZ], HB8.out, hdd, by omega, HD.out, by rw [ByteArray.size_append, ByteArray.size_append, ByteArray.size_append, ByteArray.size_append, hel, hl5, hl6]; show _ + 2 + 5 + 6 + _ ≤ _; omega, HR2.out, by rw [ByteArray.append_assoc, ByteArray.append_assoc, ByteArray.append_assoc]; exact HV.out, HE.out⟩
                      case measure => simp [intOf]; omega
        · have HS2 : Hid (sb = zoS (chunkBits ((ti, bi) :: r))) := by
            show _ = _
            have h := HG.out
            rw [List.drop_eq_nil_of_le (by omega), goBits, List.append_nil] at h
            rw [HS.out, h]; rfl
          have HBl := hide hBl
          clear HG HS HP hBl
          go_wp2
          go_ret
          exact ⟨by rw [HS2.out]; rfl, HBl.out⟩
end Go.Proofs.YtcidgfdiacehmaaDoor

/- The reference: Frame. -/
namespace Go.Proofs.YtcidgfdiacehmaaDoor
open Go.RowKit Go.Lib

/-- The bytes of a packed number. -/
def vbI (X : Int) : ByteArray := BA (Pl.varint X.toNat)
theorem vbI_size (X : Int) : (vbI X).size ≤ 10 := by have := Pl.varint_length X.toNat; simpa [vbI, BA, ByteArray.size] using this
theorem vbI_any (X : Int) (w : World) (h0 : 0 ≤ X) (h1 : X ≤ 1000000000) :
    Calls Tryd.prog 36 #[.int .i64 X] w fun e w' => e = .returned (.string (vbI X)) ∧ Below w.heap.size w w' := by
  obtain ⟨n, rfl⟩ := Int.eq_ofNat_of_zero_le h0
  have h : n < 128 ^ (9 + 1) := by omega
  exact refVarint_any 9 n w (by omega) h (by omega)
theorem BA_app (a b : List UInt8) : BA a ++ BA b = BA (a ++ b) := ByteArray.mk_append_mk a b
theorem BA_eta (x : ByteArray) : BA x.data.toList = x := by cases x; simp [BA]
theorem vbI_nat (n : Nat) : vbI (n : Int) = BA (Pl.varint n) := rfl
theorem be32_ints (n : Nat) (h : n ≤ 4294967295) : [(n : Int) / 16777216, (n : Int) / 65536 % 256, (n : Int) / 256 % 256, (n : Int) % 256] = (be32 n).map fun x => (x.toNat : Int) := by
  simp only [be32, List.map_cons, List.map_nil, Pl.u8_ofNat _ (Nat.mod_lt _ (by omega : 0 < 256))]
  congr 1
  omega
theorem le32_ints (n : Nat) (h : n ≤ 4294967295) : [(n : Int) % 256, (n : Int) / 256 % 256, (n : Int) / 65536 % 256, (n : Int) / 16777216] = (le32 n).map fun x => (x.toNat : Int) := by
  simp only [le32, List.map_cons, List.map_nil, Pl.u8_ofNat _ (Nat.mod_lt _ (by omega : 0 < 256))]
  congr 1
  congr 1
  congr 1
  congr 1
  omega
theorem place_any (tv : Value) (tb : Nat) (texts : List ByteArray) (hp : texts.Pairwise TLt) (hl : texts.length ≤ 1000000) (x : ByteArray) (w : World) (hx : x ∈ texts) (ht : TextsAt w tv tb texts) :
    Calls Tryd.prog 37 #[tv, .string x] w fun e w' => e = .returned (.int .i64 (placeOf texts x)) ∧ w' = w := by
  refine (refPlace_any tv tb texts x w ht hl hx).mono ?_
  rintro e w' ⟨⟨k, rfl, hk, _⟩, rfl⟩
  exact ⟨by rw [place_is texts hp x k hk], rfl⟩
/-- string([]byte{a, b, c, d}). -/
theorem conv_four (W : World) (g : Nat) (a b c d : Int) (l : List UInt8) (h0 : W.cell? ⟨g, 0, none⟩ = some (.int .u8 a)) (h1 : W.cell? ⟨g, 1, none⟩ = some (.int .u8 b)) (h2 : W.cell? ⟨g, 2, none⟩ = some (.int .u8 c)) (h3 : W.cell? ⟨g, 3, none⟩ = some (.int .u8 d))
    (hl : [a, b, c, d] = l.map fun x => (x.toNat : Int)) : (convert 63 9 (.slice (some ⟨g, 0, none⟩) 4 4)).run Tryd.prog W = .ok (.string (BA l)) W := by
  match l, hl with
  | [x, y, z, t], hl =>
    simp only [List.map_cons, List.map_nil, List.cons.injEq, and_true] at hl
    obtain ⟨rfl, rfl, rfl, rfl⟩ := hl
    refine run_convert_bytes_back (P := Tryd.prog) W 63 9 5 ⟨g, 0, none⟩ 4 [x, y, z, t] Tryd.underlying63 Tryd.underlying5 Tryd.underlying9 (fun j hj => ?_)
    match j, hj with
    | 0, _ => exact h0
    | 1, _ => exact h1
    | 2, _ => exact h2
    | 3, _ => exact h3

set_option maxRecDepth 100000 in
set_option maxHeartbeats 2000000 in
theorem refFrame_any (B : Nat) (v : Value) (bs : List Ser) (w : World) (hS : BatchAt w B v bs) (hB : B ≤ w.heap.size) (hF : Fits bs) :
    Calls Tryd.prog 24 #[v] w fun e w' => e = .returned (.string (BA (frameOf (payload bs)))) ∧ Below w.heap.size w w' := by
  obtain ⟨a, c, rfl, _⟩ := id hS
  have hsm := allTexts_small bs hF
  have hbl := hF.series
  have C1 := hide (refTexts_any B _ bs w hS hB hF.series hF.labels)
  have htl : (sortedTexts (allTexts bs)).length ≤ 64 := Nat.le_trans (sortedTexts_len _) hsm.1
  have ht16 : ∀ x ∈ sortedTexts (allTexts bs), x.size ≤ 16 := fun x hx => hsm.2 x (sortedTexts_mem hx)
  have hts := texts_sorted (allTexts bs)
  have HPay : Hid (payload bs = Pl.varint (sortedTexts (allTexts bs)).length ++ textsBytes (sortedTexts (allTexts bs)) ++ Pl.varint bs.length ++ seriesAll (sortedTexts (allTexts bs)) bs) := rfl
  have HS := hide hS
  have HFit := hide hF
  have HPb := hide (payload_bounds hF)
  have hmem : ∀ (i : Nat) (s : Ser), bs[i]? = some s → ∀ l ∈ s.1, l.1 ∈ sortedTexts (allTexts bs) ∧ l.2 ∈ sortedTexts (allTexts bs) := fun i s hs l hl => by
    have h1 : ∀ x ∈ [l.1, l.2], x ∈ allTexts bs := fun x hx => by
      simp only [allTexts, labTexts, List.mem_flatMap]
      exact ⟨s, List.mem_of_getElem? hs, l, hl, hx⟩
    exact ⟨hts.2 _ (h1 _ (by simp)), hts.2 _ (h1 _ (by simp))⟩
  have HMem := hide hmem
  generalize sortedTexts (allTexts bs) = texts at *
  have C := hide vbI_any
  have hvs := vbI_size
  have CP := hide (fun tv tb => place_any tv tb texts hts.1 (by omega))
  have H16 := hide ht16
  clear hS hF hsm hmem hts ht16
  go_enter Tryd.func24, Tryd.ntmps24
  go_wp2_with fail
  refine C1.out.mono ?_
  rintro e w1 ⟨o, tb, rfl, hT1, htb, hb1⟩
  have hs1 := hb1.size
  obtain ⟨ta, tc, rfl⟩ : ∃ ov oc, o = .slice ov texts.length oc := by
    rcases hT1.shape with ⟨h, a, c, h2⟩ | ⟨o, c, h2, _⟩
    · exact ⟨a, c, by rw [h2, h]; rfl⟩
    · exact ⟨_, c, h2⟩
  have HB1 := hide hb1
  have HT1 := hide hT1
  clear hb1 hT1 C1
  go_wp2_with fail
  refine (C.out _ _ (by omega) (by omega)).mono ?_
  rintro e w2 ⟨rfl, hb2⟩
  have hs2 := hb2.size
  have HB2 := hide hb2
  have hq0 := hvs texts.length
  have HQ0 := hide (vbI_nat texts.length)
  generalize vbI texts.length = q0 at *
  clear hb2
  go_wp2
  go_loopw [4, 5] (fun p i wr => ∃ (k : Nat) (pb : ByteArray), k ≤ texts.length ∧ i = .int .i64 k ∧ p = .string pb ∧ Below w1.heap.size w1 wr ∧ pb.size ≤ 10 + 26 * k ∧ Hid (pb = BA (Pl.varint texts.length ++ textsBytes (texts.take k)))) (fun _ i _ => texts.length - (intOf i).toNat)
  case atStart => exact ⟨0, q0, Nat.zero_le _, rfl, rfl, HB2.out, by omega, by show _ = _; rw [HQ0.out]; simp [textsBytes]⟩
  case round =>
    generalize wr = W0 at *
    obtain ⟨k, pb, hk, rfl, rfl, hbw, hps, HP⟩ := hrel
    have hsw := hbw.size
    have HBw := hide hbw
    clear hbw HQ0 hq0
    by_cases hlt : k < texts.length
    · obtain ⟨x, hx⟩ : ∃ x, texts[k]? = some x := ⟨_, List.getElem?_eq_getElem hlt⟩
      have hx16 := H16.out x (List.mem_of_getElem? hx)
      have htbw : tb < w1.heap.size := htb (fun e => by rw [e] at hlt; exact absurd hlt (by simp))
      have hcc : ∃ to, ta = some ⟨tb, to, none⟩ ∧ W0.cell? ⟨tb, to + k, none⟩ = some (.string x) := by
        rcases HT1.out.shape with ⟨h, _⟩ | ⟨o, c, h2, hc⟩
        · rw [h] at hx; cases hx
        · cases h2
          exact ⟨o, rfl, (HBw.out.cell (p := ⟨tb, o + k, none⟩) htbw).trans (hc k x hx)⟩
      obtain ⟨to, rfl, c1⟩ := hcc
      have htbW : tb < W0.heap.size := by omega
      have hv1 := hvs (x.size : Int)
      have HV1 := hide (vbI_nat x.size)
      have HPn : Hid ((pb ++ vbI (x.size : Int)) ++ x = BA (Pl.varint texts.length ++ textsBytes (texts.take (k + 1)))) := by
        show _ = _
        rw [HV1.out, HP.out, BA_app, textsBytes_take texts k x hx]
        conv => lhs; rw [← BA_eta x]
        rw [BA_app, BA_eta]
        simp only [List.append_assoc]
      have hno1 : ¬ 9223372036854775807 < pb.size + (vbI (x.size : Int)).size := by omega
      have hno2 : ¬ 9223372036854775807 < pb.size + (vbI (x.size : Int)).size + x.size := by omega
      have hz1 : (pb ++ vbI (x.size : Int) ++ x).size ≤ 10 + 26 * (k + 1) := by rw [ByteArray.size_append, ByteArray.size_append]; omega
      have C3 : Hid (∀ W, Calls Tryd.prog 36 #[.int .i64 (x.size : Int)] W fun e w' => e = .returned (.string (vbI (x.size : Int))) ∧ Below W.heap.size W w') := fun W => C.out _ W (by omega) (by omega)
      clear hx HP HV1
      generalize vbI (x.size : Int) = vq at *
      go_wp2
      as_aux_lemma =>
        go_region_held3 (fun w' => w'.cell? ⟨tb, to + k, none⟩ = some (.string x)) (go_keep) (first | (go_at_call 36; refine (C3.out _).mono ?_; rintro e w3 ⟨rfl, hb3⟩; have e1 := (hb3.cell (p := ⟨tb, to + k, none⟩) (by show tb < W0.heap.size; omega)).trans c1))
        all_goals
          have HB3 := hide (HBw.out.drew.trans (hb3.mono (by show w1.heap.size ≤ W0.heap.size; omega)))
          clear hb3 e1 c1
          go_wp2
          go_roundw
          case rel => exact ⟨k + 1, _, by omega, by go_num, rfl, HB3.out, hz1, HPn.out⟩
          case measure => simp [intOf]; omega
    · have hke : k = texts.length := by omega
      have HP2 : Hid (pb = BA (Pl.varint texts.length ++ textsBytes texts)) := by show _ = _; rw [HP.out, hke, List.take_length]
      clear HP hke
      go_wp2_with fail
      refine (C.out _ _ (by omega) (by omega)).mono ?_
      rintro e w3 ⟨rfl, hb3⟩
      have hs3 := hb3.size
      have HB3 := hide (HBw.out.trans (hb3.mono hsw))
      have hv3 := hvs (bs.length : Int)
      have hno3 : ¬ 9223372036854775807 < pb.size + (vbI (bs.length : Int)).size := by omega
      have HP3 : Hid (pb ++ vbI (bs.length : Int) = BA (Pl.varint texts.length ++ textsBytes texts ++ Pl.varint bs.length)) := by
        show _ = _
        rw [HP2.out, vbI_nat, BA_app]
      have hz3 : (pb ++ vbI (bs.length : Int)).size ≤ 2000 := by rw [ByteArray.size_append]; omega
      clear hb3 HP2 HBw
      generalize vbI (bs.length : Int) = vq at *
      go_wp2
      generalize pb ++ vq = q3 at *
      go_loopw [4, 6, 7, 8, 9] (fun p i _ _ _ wr => ∃ (m : Nat) (pb : ByteArray), m ≤ bs.length ∧ i = .int .i64 m ∧ p = .string pb ∧ Below w1.heap.size w1 wr ∧ pb.size ≤ 2000 + 6200 * m ∧ Hid (pb = BA (Pl.varint texts.length ++ textsBytes texts ++ Pl.varint bs.length ++ seriesAll texts (bs.take m)))) (fun _ i _ _ _ _ => bs.length - (intOf i).toNat)
      case atStart => exact ⟨0, q3, Nat.zero_le _, rfl, rfl, HB3.out, by omega, by show _ = _; rw [HP3.out]; simp [seriesAll]⟩
      case round =>
        generalize wr = W2 at *
        obtain ⟨m, pm, hm, rfl, rfl, hbm, hpm, HPm⟩ := hrel
        have hsm2 := hbm.size
        have HBm := hide hbm
        clear hbm HP3 HB3 hz3
        by_cases hml : m < bs.length
        · obtain ⟨⟨y1, y2⟩, hy⟩ : ∃ y, bs[m]? = some y := ⟨_, List.getElem?_eq_getElem hml⟩
          have hyf := List.mem_of_getElem? hy
          have hl4 : y1.length ≤ 4 := HFit.out.labels _ hyf
          have hs40 : y2.length ≤ 40 := (HFit.out.samples _ hyf).2
          have hsne : y2 ≠ [] := (HFit.out.samples _ hyf).1
          have KS := (HS.out.below HB1.out hB).below HBm.out (by omega)
          obtain ⟨b, o, la, lc, sa, sc, rfl, hb, c1, c2, hLa, hSa⟩ := KS.get hy
          have hbw : b < W2.heap.size := by omega
          have HY := hide hy
          have HLa := hide hLa
          have HSa := hide hSa
          have HMy := hide (HMem.out m _ hy)
          simp only at c1 c2 HMy
          clear hy KS hLa hSa hyf
          go_wp2_with fail
          refine (C.out _ _ (by omega) (by omega)).mono ?_
          rintro e w4 ⟨rfl, hb4⟩
          have hs4 := hb4.size
          have HB4 := hide hb4
          have hv4 := hvs (y1.length : Int)
          have hno4 : ¬ 9223372036854775807 < pm.size + (vbI (y1.length : Int)).size := by omega
          have HP4 : Hid (pm ++ vbI (y1.length : Int) = BA (Pl.varint texts.length ++ textsBytes texts ++ Pl.varint bs.length ++ seriesAll texts (bs.take m) ++ Pl.varint y1.length)) := by
            show _ = _
            rw [HPm.out, vbI_nat, BA_app]
          have hz4 : (pm ++ vbI (y1.length : Int)).size ≤ 2000 + 6200 * m + 10 := by rw [ByteArray.size_append]; omega
          clear hb4 HPm
          generalize vbI (y1.length : Int) = vq4 at *
          go_wp2
          generalize pm ++ vq4 = q4 at *
          go_loopw [4, 8] (fun p i wr => ∃ (t : Nat) (pb : ByteArray), t ≤ y1.length ∧ i = .int .i64 t ∧ p = .string pb ∧ Below W2.heap.size W2 wr ∧ pb.size ≤ 2000 + 6200 * m + 10 + 20 * t ∧ Hid (pb = BA (Pl.varint texts.length ++ textsBytes texts ++ Pl.varint bs.length ++ seriesAll texts (bs.take m) ++ Pl.varint y1.length ++ labelsBytes texts (y1.take t)))) (fun _ i _ => y1.length - (intOf i).toNat)
          case atStart => exact ⟨0, q4, Nat.zero_le _, rfl, rfl, HB4.out, by omega, by show _ = _; rw [HP4.out]; simp [labelsBytes]⟩
          case round =>
            obtain ⟨t, pt, ht, rfl, rfl, hbt, hpt, HPt⟩ := hrel
            have hst := hbt.size
            have HBt := hide hbt
            clear hbt HP4 HB4 hz4
            by_cases htl : t < y1.length
            · obtain ⟨⟨p1, p2⟩, hp⟩ : ∃ p, y1[t]? = some p := ⟨_, List.getElem?_eq_getElem htl⟩
              have KL := HLa.out.below HBt.out (by omega)
              obtain ⟨lb, lo, rfl, hlb, e1, e2⟩ := KL.get hp
              have hlbw : lb < wr.heap.size := by omega
              obtain ⟨mm1, mm2⟩ := HMy.out _ (List.mem_of_getElem? hp)
              simp only at e1 e2 mm1 mm2
              have htbw : tb < w1.heap.size := htb (fun e => by rw [e] at mm1; cases mm1)
              have HTk : Hid (∀ W : World, W.heap[tb]? = wr.heap[tb]? → TextsAt W (.slice ta texts.length tc) tb texts) := fun W hW => HT1.out.kept (hW.trans ((HBt.out.block tb (by omega)).trans (HBm.out.block tb htbw)))
              have CPl : Hid (∀ (x : ByteArray) (W : World), x ∈ texts → W.heap[tb]? = wr.heap[tb]? → Calls Tryd.prog 37 #[.slice ta texts.length tc, .string x] W fun e w' => e = .returned (.int .i64 (placeOf texts x)) ∧ W = w') := fun x W hx hW => (CP.out _ _ x W hx (HTk.out W hW)).mono fun _ _ ⟨h1, h2⟩ => ⟨h1, h2.symm⟩
              have pl1 := placeOf_le texts p1
              have pl2 := placeOf_le texts p2
              have CV : Hid (∀ (x : ByteArray) (W : World), Calls Tryd.prog 36 #[.int .i64 ((placeOf texts x : Nat) : Int)] W fun e w' => e = .returned (.string (vbI (placeOf texts x : Int))) ∧ Below W.heap.size W w') := fun x W => C.out _ W (by omega) (by have := placeOf_le texts x; omega)
              have hq1 := hvs (placeOf texts p1 : Int)
              have hq2 := hvs (placeOf texts p2 : Int)
              have HPn : Hid ((pt ++ vbI (placeOf texts p1 : Int)) ++ vbI (placeOf texts p2 : Int) = BA (Pl.varint texts.length ++ textsBytes texts ++ Pl.varint bs.length ++ seriesAll texts (bs.take m) ++ Pl.varint y1.length ++ labelsBytes texts (y1.take (t + 1)))) := by
                show _ = _
                rw [HPt.out, vbI_nat, vbI_nat, BA_app, BA_app, labelsBytes_take texts y1 t _ hp]
                simp only [List.append_assoc]
              have hno1 : ¬ 9223372036854775807 < pt.size + (vbI (placeOf texts p1 : Int)).size := by omega
              have hno2 : ¬ 9223372036854775807 < pt.size + (vbI (placeOf texts p1 : Int)).size + (vbI (placeOf texts p2 : Int)).size := by omega
              have hz1 : (pt ++ vbI (placeOf texts p1 : Int) ++ vbI (placeOf texts p2 : Int)).size ≤ 2000 + 6200 * m + 10 + 20 * (t + 1) := by rw [ByteArray.size_append, ByteArray.size_append]; omega
              have htbr : tb < wr.heap.size := by omega
              clear hp KL HPt hvs
              go_wp2
              as_aux_lemma =>
                go_region_held3 (fun w' => w'.cell? ⟨lb, lo + t * 2, none⟩ = some (.string p1) ∧ w'.cell? ⟨lb, lo + t * 2 + 1, none⟩ = some (.string p2)) (go_keep) (first | (go_at_call 37; refine (CPl.out _ _ (by first | exact mm1 | exact mm2) (by first | exact hk5 | exact rfl)).mono ?_; rintro e w' ⟨rfl, rfl⟩) | (go_at_call_of 36 (placeOf texts p1); refine (CV.out _ _).mono ?_; rintro e w5 ⟨rfl, hb5⟩; have hs5 : wr.heap.size ≤ w5.heap.size := hb5.size; have hk5 : w5.heap[tb]? = wr.heap[tb]? := hb5.block tb htbr; have v1 := (hb5.cell (p := ⟨lb, lo + t * 2, none⟩) (by show lb < wr.heap.size; omega)).trans e1; have v2 := (hb5.cell (p := ⟨lb, lo + t * 2 + 1, none⟩) (by show lb < wr.heap.size; omega)).trans e2) | (go_at_call_of 36 (placeOf texts p2); refine (CV.out _ _).mono ?_; rintro e w6 ⟨rfl, hb6⟩; have x1 := (hb6.cell (p := ⟨lb, lo + t * 2, none⟩) (by show lb < w5.heap.size; omega)).trans v1; have x2 := (hb6.cell (p := ⟨lb, lo + t * 2 + 1, none⟩) (by show lb < w5.heap.size; omega)).trans v2))
                all_goals
                  have HB6 := hide ((HBt.out.drew.trans (hb5.mono (by show W2.heap.size ≤ wr.heap.size; omega))).trans (hb6.mono (by show W2.heap.size ≤ w5.heap.size; omega)))
                  clear hb5 hb6 hk5 v1 v2 x1 x2 e1 e2
                  go_wp2
                  go_roundw
                  case rel => exact ⟨t + 1, _, by omega, by go_num, rfl, HB6.out, hz1, HPn.out⟩
                  case measure => simp [intOf]; omega
            · have hte : t = y1.length := by omega
              have HP5 : Hid (pt = BA (Pl.varint texts.length ++ textsBytes texts ++ Pl.varint bs.length ++ seriesAll texts (bs.take m) ++ Pl.varint y1.length ++ labelsBytes texts y1)) := by show _ = _; rw [HPt.out, hte, List.take_length]
              have n1 := (HBt.out.cell (p := ⟨b, o + m * 2, none⟩) hbw).trans c1
              have n2 := (HBt.out.cell (p := ⟨b, o + m * 2 + 1, none⟩) hbw).trans c2
              have hSt := HSa.out.below HBt.out (by omega)
              obtain ⟨y0, yr, rfl⟩ : ∃ y0 yr, y2 = y0 :: yr := by
                cases y2 with
                | nil => exact absurd rfl hsne
                | cons a r => exact ⟨a, r, rfl⟩
              have hs40' : yr.length ≤ 39 := by simp only [List.length_cons] at hs40; omega
              have CC := hide (refChunk_any B _ y0 yr wr hSt (by omega) (by omega))
              have hcb := chunkBytes_len (y0 :: yr) (by omega)
              have hcl : (chunkBits (y0 :: yr)).length ≤ 128 + 150 * yr.length := by
                have h := goBits_len yr (Go.Proofs.YtcidgfdiacehmaaDoor.u64 y0.1) 0 y0.2 0 0 (by omega)
                rw [chunkBits, List.length_append, List.length_append, Pl.bitsOf_length, Pl.bitsOf_length]; omega
              have hcl0 : 0 < (chunkBits (y0 :: yr)).length := by
                rw [chunkBits, List.length_append, List.length_append, Pl.bitsOf_length]; omega
              have hbw3 : b < wr.heap.size := by omega
              clear HPt hte c1 c2 hSt
              go_wp2_with fail
              refine CC.out.mono ?_
              rintro e w5 ⟨rfl, hb5⟩
              have hs5 := hb5.size
              have HB5 := hide hb5
              clear hb5 CC
              go_wp2_with fail
              refine (filled_any _ _ (by omega) hcl0).mono ?_
              rintro e w6 ⟨rfl, hb6⟩
              have HB6 := hide (HB5.out.trans (hb6.mono hs5))
              have hs6 := hb6.size
              have q2 := (HB6.out.cell (p := ⟨b, o + m * 2 + 1, none⟩) hbw3).trans n2
              have HCh : Hid (Pl.pack (chunkBits (y0 :: yr)) = chunkBytes (y0 :: yr)) := rfl
              clear hb6 HB5 n1 n2
              go_wp2_with fail
              refine (C.out _ _ (by omega) (by omega)).mono ?_
              rintro e w7 ⟨rfl, hb7⟩
              have hs7 := hb7.size
              have HB7 := hide (HB6.out.trans (hb7.mono (by omega)))
              have hv7 := hvs ((y0 :: yr).length : Int)
              have hv8 := hvs ((Pl.pack (chunkBits (y0 :: yr))).length : Int)
              have HP9 : Hid (((pt ++ vbI ((y0 :: yr).length : Int)) ++ vbI ((Pl.pack (chunkBits (y0 :: yr))).length : Int)) ++ ⟨(Pl.pack (chunkBits (y0 :: yr))).toArray⟩ = BA (Pl.varint texts.length ++ textsBytes texts ++ Pl.varint bs.length ++ seriesAll texts (bs.take (m + 1)))) := by
                show _ = _
                rw [HP5.out, vbI_nat, vbI_nat, BA_app, BA_app, show (⟨(Pl.pack (chunkBits (y0 :: yr))).toArray⟩ : ByteArray) = BA (Pl.pack (chunkBits (y0 :: yr))) from rfl, BA_app, seriesAll_take texts bs m _ HY.out]
                simp only [seriesBytes, chunkBytes, List.append_assoc]
              have CV8 : Hid (∀ W : World, Calls Tryd.prog 36 #[.int .i64 ((Pl.pack (chunkBits (y0 :: yr))).length : Int)] W fun e w' => e = .returned (.string (vbI ((Pl.pack (chunkBits (y0 :: yr))).length : Int))) ∧ Below W.heap.size W w') := fun W => C.out _ W (by omega) (by omega)
              have e8 : ((Pl.pack (chunkBits (y0 :: yr))).toArray).size = (Pl.pack (chunkBits (y0 :: yr))).length := by simp
              have ecast : (((y0 :: yr).length : Nat) : Int) = (yr.length : Int) + 1 := by simp
              rw [ecast] at hv7 HP9
              clear hb7 HB6 q2 HP5 HCh hvs ecast
              generalize vbI ((yr.length : Int) + 1) = s7 at *
              generalize hpk : Pl.pack (chunkBits (y0 :: yr)) = ck at *
              generalize vbI (ck.length : Int) = s8 at *
              clear hpk
              have hno7 : ¬ 9223372036854775807 < pt.size + s7.size := by omega
              have hno8 : ¬ 9223372036854775807 < pt.size + s7.size + s8.size := by omega
              have hno9 : ¬ 9223372036854775807 < pt.size + s7.size + s8.size + ck.length := by omega
              have hz9 : (pt ++ s7 ++ s8 ++ ⟨ck.toArray⟩).size ≤ 2000 + 6200 * (m + 1) := by rw [ByteArray.size_append, ByteArray.size_append, ByteArray.size_append]; show _ + ck.toArray.size ≤ _; rw [e8]; omega
              go_wp2_with fail
              refine (CV8.out _).mono ?_
              rintro e w8 ⟨rfl, hb8⟩
              have HB8 := hide (HBm.out.trans ((HBt.out.trans ((HB7.out.trans (hb8.mono (by omega))).mono hst)).mono hsm2))
              clear hb8 HB7 CV8
              go_wp2
              go_roundw
              case rel => exact ⟨m + 1, _, by omega, by go_num, rfl, HB8.out, hz9, HP9.out⟩
              case measure => simp [intOf]; omega
        · have hme : m = bs.length := by omega
          have HPf : Hid (pm = BA (payload bs)) := by show _ = _; rw [HPm.out, hme, List.take_length, HPay.out]
          have hn : pm.size ≤ 60000 := by rw [HPf.out, BA_size]; exact HPb.out.1
          have hcv := conv_four (W2.alloc (.cells #[.int .u8 ((pm.size : Int) / 16777216), .int .u8 ((pm.size : Int) / 65536 % 256), .int .u8 ((pm.size : Int) / 256 % 256), .int .u8 ((pm.size : Int) % 256)] 5)) W2.heap.size _ _ _ _ (be32 pm.size) (World.cell?_alloc_new _ _ _ 0) (World.cell?_alloc_new _ _ _ 1) (World.cell?_alloc_new _ _ _ 2) (World.cell?_alloc_new _ _ _ 3) (be32_ints pm.size (by omega))
          have hb4 : (BA (be32 pm.size)).size = 4 := by rw [BA_size]; rfl
          have HH : Hid ((⟨#[67, 72, 1]⟩ ++ BA (be32 pm.size)) ++ pm = BA (headOf (payload bs))) := by
            show _ = _
            have e1 : be32 pm.size = be32 (payload bs).length := by rw [HPf.out, BA_size]
            rw [e1, HPf.out, show (⟨#[67, 72, 1]⟩ : ByteArray) = BA [67, 72, 1] from rfl, BA_app, BA_app]
            rfl
          clear HPm hme
          generalize BA (be32 pm.size) = s4 at *
          have hno4 : ¬ 9223372036854775807 < 3 + s4.size := by omega
          have hno5 : ¬ 9223372036854775807 < 3 + s4.size + pm.size := by omega
          have hzh : ((⟨#[67, 72, 1]⟩ ++ s4) ++ pm).size ≤ 70000 := by rw [ByteArray.size_append, ByteArray.size_append]; show 3 + _ + _ ≤ _; omega
          generalize hhd : (⟨#[67, 72, 1]⟩ ++ s4) ++ pm = hd at *
          have HHd := hide hhd
          clear hhd
          go_wp2_with fail
          rw [HHd.out]
          refine (refSum_any hd _ (by unfold maxLen; omega)).mono ?_
          rintro e w5 ⟨rfl, rfl⟩
          have hcr : Pl.crc hd.data.toList ≤ 4294967295 := by have := Pl.crc_lt hd.data.toList; omega
          have HEnd : Hid (hd ++ BA (le32 (Pl.crc hd.data.toList)) = BA (frameOf (payload bs))) := by
            show _ = _
            rw [HH.out, BA_app, BA_list]; rfl
          generalize Pl.crc hd.data.toList = cr at *
          have hcv2 := conv_four ((W2.alloc (.cells #[.int .u8 ((pm.size : Int) / 16777216), .int .u8 ((pm.size : Int) / 65536 % 256), .int .u8 ((pm.size : Int) / 256 % 256), .int .u8 ((pm.size : Int) % 256)] 5)).alloc (.cells #[.int .u8 ((cr : Int) % 256), .int .u8 ((cr : Int) / 256 % 256), .int .u8 ((cr : Int) / 65536 % 256), .int .u8 ((cr : Int) / 16777216)] 5)) (W2.heap.size + 1) _ _ _ _ (le32 cr) (by rw [World.cell?_alloc_at _ _ _ _ (by simp)]; rfl) (by rw [World.cell?_alloc_at _ _ _ _ (by simp)]; rfl) (by rw [World.cell?_alloc_at _ _ _ _ (by simp)]; rfl) (by rw [World.cell?_alloc_at _ _ _ _ (by simp)]; rfl) (le32_ints cr hcr)
          have hl4 : (BA (le32 cr)).size = 4 := by rw [BA_size]; rfl
          generalize BA (le32 cr) = e4 at *
          have hno6 : ¬ 9223372036854775807 < hd.size + e4.size := by omega
          clear HHd
          go_wp2
          go_ret
          refine ⟨by rw [← HEnd.out]; rfl, ?_⟩
          have h2 := HB1.out.trans (HBm.out.mono hs1)
          exact (h2.alloc (by omega) _).alloc (by simp; omega) _
end Go.Proofs.YtcidgfdiacehmaaDoor

/- The reference: less, Order, Within. -/
namespace Go.Proofs.YtcidgfdiacehmaaDoor
open Go.RowKit Go.Lib

theorem bl_cmp : ∀ (x y : List UInt8), (Op.bytesLess x y = true ↔ Lib.compareBytes x y = -1) ∧ (x = y ↔ Lib.compareBytes x y = 0) ∧ (Lib.compareBytes x y = -1 ∨ Lib.compareBytes x y = 0 ∨ Lib.compareBytes x y = 1) ∧ Lib.compareBytes y x = - Lib.compareBytes x y
  | [], [] => by simp [Op.bytesLess, Lib.compareBytes]
  | [], _ :: _ => by simp [Op.bytesLess, Lib.compareBytes]
  | _ :: _, [] => by simp [Op.bytesLess, Lib.compareBytes]
  | a :: r, b :: q => by
    have ih := bl_cmp r q
    by_cases hab : a = b
    · subst hab
      simpa [Op.bytesLess, Lib.compareBytes] using ih
    · by_cases hlt : a < b
      · have hlt2 : ¬ b < a := fun h => absurd (UInt8.lt_trans hlt h) (UInt8.lt_irrefl _)
        simp [Op.bytesLess, Lib.compareBytes, hab, hlt, hlt2]
      · have hlt2 : b < a := by rcases UInt8.lt_or_lt_of_ne hab with h | h; exact absurd h hlt; exact h
        simp [Op.bytesLess, Lib.compareBytes, hab, hlt, hlt2]

/-- Is a label ahead of another? -/
def lessLab (x y : Lab) : Bool := Op.bytesLess x.1.toList y.1.toList || (x.1.toList == y.1.toList && Op.bytesLess x.2.toList y.2.toList)

theorem toList_data (a : ByteArray) : a.toList = a.data.toList := ByteArray.toList_eq a
theorem lessLab_cmp (x y : Lab) : (lessLab x y = true ↔ cmpLab x y = -1) ∧ (lessLab y x = true ↔ cmpLab x y = 1) ∧ (cmpLab x y = -1 ∨ cmpLab x y = 0 ∨ cmpLab x y = 1) := by
  have h1 := bl_cmp x.1.data.toList y.1.data.toList
  have h2 := bl_cmp x.2.data.toList y.2.data.toList
  have h3 := bl_cmp y.1.data.toList x.1.data.toList
  have h4 := bl_cmp y.2.data.toList x.2.data.toList
  unfold lessLab cmpLab cmpB
  simp only [toList_data, Bool.or_eq_true, Bool.and_eq_true, beq_iff_eq, h1.1, h2.1, h3.1, h4.1]
  rw [h1.2.1, h3.2.1, h1.2.2.2, h2.2.2.2]
  have a1 := h1.2.2.1
  have a2 := h2.2.2.1
  generalize Lib.compareBytes x.1.data.toList y.1.data.toList = p at *
  generalize Lib.compareBytes x.2.data.toList y.2.data.toList = q at *
  clear h1 h2 h3 h4
  split <;> omega

set_option maxRecDepth 100000 in
set_option maxHeartbeats 400000 in
theorem less_any (x y : Lab) (w : World) :
    Calls Tryd.prog 67 #[.agg #[.string x.1, .string x.2], .agg #[.string y.1, .string y.2]] w fun e w' => e = .returned (.bool (lessLab x y)) ∧ Below w.heap.size w w' := by
  obtain ⟨a, b⟩ := x
  obtain ⟨c, d⟩ := y
  have HL : Hid (lessLab (a, b) (c, d) = (Op.bytesLess a.toList c.toList || (a.toList == c.toList && Op.bytesLess b.toList d.toList))) := rfl
  cases h1 : Op.bytesLess a.toList c.toList with
  | true =>
    go_enter Tryd.func67, Tryd.ntmps67
    go_wp2
    go_ret
    exact ⟨by rw [HL.out, h1]; rfl, (((Below.refl _ _).alloc (Nat.le_refl _) _).alloc (by simp) _)⟩
  | false =>
    cases h2 : a.toList == c.toList with
    | true =>
      go_enter Tryd.func67, Tryd.ntmps67
      go_wp2
      go_ret
      exact ⟨by rw [HL.out, h1, h2]; rfl, (((Below.refl _ _).alloc (Nat.le_refl _) _).alloc (by simp) _)⟩
    | false =>
      go_enter Tryd.func67, Tryd.ntmps67
      go_wp2
      go_ret
      exact ⟨by rw [HL.out, h1, h2]; rfl, (((Below.refl _ _).alloc (Nat.le_refl _) _).alloc (by simp) _)⟩

set_option maxRecDepth 100000 in
set_option maxHeartbeats 400000 in
theorem refOrder_any (B : Nat) (u v : Value) (l m : List Lab) (w : World) (hl : LabelsAt w B u l) (hm : LabelsAt w B v m) (hB : B ≤ w.heap.size) (hll : l.length ≤ 10000000000000) :
    Calls Tryd.prog 51 #[u, v] w fun e w' => e = .returned (.int .i64 (cmpLabs l m)) ∧ Below w.heap.size w w' := by
  obtain ⟨la, lc, rfl, _⟩ := id hl
  obtain ⟨ma, mc, rfl, _⟩ := id hm
  have HL := hide hl
  have HM := hide hm
  clear hl hm
  go_enter Tryd.func51, Tryd.ntmps51
  go_wp2
  go_loopw [5, 6, 7] (fun i _ _ wr => ∃ k : Nat, k ≤ l.length ∧ k ≤ m.length ∧ i = .int .i64 k ∧ Below w.heap.size w wr ∧ Hid (cmpLabs l m = cmpLabs (l.drop k) (m.drop k))) (fun i _ _ _ => l.length - (intOf i).toNat)
  case atStart => exact ⟨0, Nat.zero_le _, Nat.zero_le _, rfl, Below.refl _ _, rfl⟩
  case round =>
    obtain ⟨k, hk, hkm, rfl, hbl, HE⟩ := hrel
    have hsz := hbl.size
    have HBl := hide hbl
    clear hbl
    by_cases hlt : k < l.length
    · by_cases hltm : k < m.length
      · obtain ⟨x, hx⟩ : ∃ x, l[k]? = some x := ⟨_, List.getElem?_eq_getElem hlt⟩
        obtain ⟨b, o, rfl, hb, c1, c2⟩ := (HL.out.below HBl.out hB).get hx
        have hbw : b < wr.heap.size := by omega
        obtain ⟨y, hy⟩ : ∃ y, m[k]? = some y := ⟨_, List.getElem?_eq_getElem hltm⟩
        obtain ⟨b', o', rfl, hb', d1, d2⟩ := (HM.out.below HBl.out hB).get hy
        have hbw' : b' < wr.heap.size := by omega
        have HD := hide (cmpLabs_drop hx hy)
        have HC := hide (lessLab_cmp x y)
        obtain ⟨x1, x2⟩ := x
        obtain ⟨y1, y2⟩ := y
        have C1 := hide (less_any (x1, x2) (y1, y2))
        have C2 := hide (less_any (y1, y2) (x1, x2))
        clear hx hy
        have hsz2 := hsz
        generalize hq : cmpLab (x1, x2) (y1, y2) = q at *
        generalize hp1 : lessLab (x1, x2) (y1, y2) = p1 at *
        generalize hp2 : lessLab (y1, y2) (x1, x2) = p2 at *
        clear hq hp1 hp2
        go_wp2
        as_aux_lemma =>
          go_region_held3 (fun w' => w'.cell? ⟨b, o + k * 2, none⟩ = some (.string x1) ∧ w'.cell? ⟨b, o + k * 2 + 1, none⟩ = some (.string x2) ∧ w'.cell? ⟨b', o' + k * 2, none⟩ = some (.string y1) ∧ w'.cell? ⟨b', o' + k * 2 + 1, none⟩ = some (.string y2)) (go_keep) (first | (go_at_call 67; refine (C1.out _).mono ?_; rintro e w2 ⟨rfl, hb2⟩; have e1 := (Below.cell hb2 (p := ⟨b, o + k * 2, none⟩) (by show b < wr.heap.size; omega)).trans c1; have e2 := (Below.cell hb2 (p := ⟨b, o + k * 2 + 1, none⟩) (by show b < wr.heap.size; omega)).trans c2; have e3 := (Below.cell hb2 (p := ⟨b', o' + k * 2, none⟩) (by show b' < wr.heap.size; omega)).trans d1; have e4 := (Below.cell hb2 (p := ⟨b', o' + k * 2 + 1, none⟩) (by show b' < wr.heap.size; omega)).trans d2))
          all_goals
            have HB2 := hide (HBl.out.drew.trans (hb2.mono (by show w.heap.size ≤ wr.heap.size; omega)))
            have hs2 : wr.heap.size ≤ w2.heap.size := hb2.size
            clear hb2 c1 c2 d1 d2 HBl
            go_wp2
            as_aux_lemma =>
              go_region_held3 (fun w' => w'.cell? ⟨b, o + k * 2, none⟩ = some (.string x1) ∧ w'.cell? ⟨b, o + k * 2 + 1, none⟩ = some (.string x2) ∧ w'.cell? ⟨b', o' + k * 2, none⟩ = some (.string y1) ∧ w'.cell? ⟨b', o' + k * 2 + 1, none⟩ = some (.string y2)) (go_keep) (first | (go_at_call 67; refine (C2.out _).mono ?_; rintro e w3 ⟨rfl, hb3⟩; have g1 := (Below.cell hb3 (p := ⟨b, o + k * 2, none⟩) (by show b < w2.heap.size; omega)).trans e1; have g2 := (Below.cell hb3 (p := ⟨b, o + k * 2 + 1, none⟩) (by show b < w2.heap.size; omega)).trans e2; have g3 := (Below.cell hb3 (p := ⟨b', o' + k * 2, none⟩) (by show b' < w2.heap.size; omega)).trans e3; have g4 := (Below.cell hb3 (p := ⟨b', o' + k * 2 + 1, none⟩) (by show b' < w2.heap.size; omega)).trans e4))
              all_goals
                have HB3 := hide (HB2.out.drew.trans (hb3.mono (by show w.heap.size ≤ w2.heap.size; omega)))
                clear hb3 e1 e2 e3 e4 g1 g2 g3 g4 HB2
                cases p1 with
                | true =>
                  have hq : q = -1 := HC.out.1.1 rfl
                  have HQ : Hid (cmpLabs l m = -1) := by show _ = _; rw [HE.out, HD.out, hq]; rfl
                  clear hq HC HD HE
                  go_wp2
                  go_ret
                  exact ⟨ret_int HQ.out.symm, HB3.out⟩
                | false =>
                  cases p2 with
                  | true =>
                    have hq : q = 1 := HC.out.2.1.1 rfl
                    have HQ : Hid (cmpLabs l m = 1) := by show _ = _; rw [HE.out, HD.out, hq]; rfl
                    clear hq HC HD HE
                    go_wp2
                    go_ret
                    exact ⟨ret_int HQ.out.symm, HB3.out⟩
                  | false =>
                    have hq : q = 0 := by
                      rcases HC.out.2.2 with h | h | h
                      · cases HC.out.1.2 h
                      · exact h
                      · cases HC.out.2.1.2 h
                    have HQ : Hid (cmpLabs l m = cmpLabs (l.drop (k + 1)) (m.drop (k + 1))) := by show _ = _; rw [HE.out, HD.out, hq]; rfl
                    clear hq HC HD HE
                    go_wp2
                    go_roundw
                    case rel => exact ⟨k + 1, by omega, by omega, by go_num, HB3.out, HQ.out⟩
                    case measure => simp [intOf]; omega
      · obtain ⟨x, hx⟩ : ∃ x, l[k]? = some x := ⟨_, List.getElem?_eq_getElem hlt⟩
        have hend : cmpLabs l m = 1 := HE.out.trans (cmpLabs_end1 (by omega) hx)
        have HEnd := hide hend
        clear hx hend HE
        have h1 : ¬ l.length < m.length := by omega
        have h2 : m.length < l.length := by omega
        go_wp2
        go_ret
        exact ⟨ret_int HEnd.out.symm, HBl.out⟩
    · have hend : cmpLabs l m = if l.length < m.length then -1 else 0 := HE.out.trans (cmpLabs_end2 (by omega) (by omega))
      have HEnd := hide hend
      clear hend
      by_cases hlm2 : l.length < m.length
      · rw [if_pos hlm2] at HEnd
        go_wp2
        go_ret
        exact ⟨ret_int HEnd.out.symm, HBl.out⟩
      · rw [if_neg hlm2] at HEnd
        have h2 : ¬ m.length < l.length := by omega
        go_wp2
        go_ret
        exact ⟨ret_int HEnd.out.symm, HBl.out⟩

set_option maxRecDepth 100000 in
set_option maxHeartbeats 400000 in
theorem refWithin_any (B : Nat) (v : Value) (bs : List Ser) (w : World) (hS : BatchAt w B v bs) (hB : B ≤ w.heap.size) (hll : bs.length ≤ 10000000000000) :
    Calls Tryd.prog 34 #[v] w fun e w' => BoolOf e (LimitsOk bs) ∧ Below w.heap.size w w' := by
  obtain ⟨a, c, rfl, _⟩ := id hS
  have HS := hide hS
  clear hS
  by_cases h8 : 8 < bs.length
  · go_enter Tryd.func34, Tryd.ntmps34
    go_wp2
    go_ret
    exact ⟨BoolOf.no (fun h => by have := h.2; omega), Below.refl _ _⟩
  · go_enter Tryd.func34, Tryd.ntmps34
    go_wp2
    go_loopw [3] (fun i wr => ∃ k : Nat, k ≤ bs.length ∧ i = .int .i64 k ∧ Below w.heap.size w wr ∧ Hid (LimTo bs k)) (fun i _ => bs.length - (intOf i).toNat)
    case atStart => exact ⟨0, Nat.zero_le _, rfl, Below.refl _ _, fun i x h => by omega⟩
    case round =>
      obtain ⟨k, hk, rfl, hbl, HR⟩ := hrel
      have hsz := hbl.size
      have HBl := hide hbl
      clear hbl
      by_cases hlt : k < bs.length
      · obtain ⟨⟨y1, y2⟩, hy⟩ : ∃ y, bs[k]? = some y := ⟨_, List.getElem?_eq_getElem hlt⟩
        obtain ⟨b, o, la, lc, sa, sc, rfl, hb, c1, c2, _, _⟩ := (HS.out.below HBl.out hB).get hy
        have hbw : b < wr.heap.size := by omega
        have HY := hide hy
        clear hy
        simp only at c1 c2
        by_cases h1 : 4 < y1.length
        · have hno : ¬ LimitsOk bs := fun h => by have h2 : y1.length ≤ 4 := (h.1 k _ hlt HY.out).1; omega
          have HNo := hide hno
          clear hno HR HY
          go_wp2
          go_ret
          exact ⟨BoolOf.no HNo.out, HBl.out⟩
        · by_cases h2 : 40 < y2.length
          · have hno : ¬ LimitsOk bs := fun h => by have h2 : y2.length ≤ 40 := (h.1 k _ hlt HY.out).2; omega
            have HNo := hide hno
            clear hno HR HY
            go_wp2
            go_ret
            exact ⟨BoolOf.no HNo.out, HBl.out⟩
          · go_wp2
            go_roundw
            case rel => exact ⟨k + 1, by omega, by go_num, HBl.out, HR.out.succ HY.out (by show y1.length ≤ 4; omega) (by show y2.length ≤ 40; omega)⟩
            case measure => simp [intOf]; omega
      · have hke : k = bs.length := by omega
        have HY : Hid (LimTo bs bs.length) := by show LimTo bs bs.length; rw [← hke]; exact HR.out
        clear hke
        go_wp2
        go_ret
        exact ⟨BoolOf.yes ⟨HY.out, by omega⟩, HBl.out⟩
end Go.Proofs.YtcidgfdiacehmaaDoor

/- The reference: Good. -/
namespace Go.Proofs.YtcidgfdiacehmaaDoor
open Go.RowKit Go.Lib

theorem empty_size (x : ByteArray) : x.toList.isEmpty = decide (x.size < 1) := by
  rw [ByteArray.toList_eq]
  cases h : x.data.toList with
  | nil => have h2 : x.size = 0 := by show x.data.size = 0; rw [← Array.length_toList, h]; rfl
           simp [h2]
  | cons a r => have h2 : x.size = r.length + 1 := by show x.data.size = _; rw [← Array.length_toList, h]; rfl
                simp [h2]
theorem rises_one (l : List (Int × Nat)) : RisesTo l 1 := fun i x y h => by omega
theorem rises_more {l : List (Int × Nat)} {k : Nat} {x y : Int × Nat} (h : RisesTo l (k + 1)) (hx : l[k]? = some x) (hy : l[k + 1]? = some y) (hlt : x.1 < y.1) : RisesTo l (k + 2) := fun i u v hi hu hv => by
  by_cases e : i = k
  · subst e
    rw [hx] at hu; rw [hy] at hv
    cases hu; cases hv; exact hlt
  · exact h i u v (by omega) hu hv

set_option maxRecDepth 100000 in
set_option maxHeartbeats 4000000 in
theorem refGood_any (B : Nat) (v : Value) (bs : List Ser) (w : World) (hS : BatchAt w B v bs) (hB : B ≤ w.heap.size) (hsm : Small bs) :
    Calls Tryd.prog 33 #[v] w fun e w' => BoolOf e (BatchOk bs) ∧ Below w.heap.size w w' := by
  obtain ⟨a, c, rfl, _⟩ := id hS
  have HS := hide hS
  have hll := hsm.series
  have HSm := hide hsm
  clear hS hsm
  go_enter Tryd.func33, Tryd.ntmps33
  go_wp2
  go_loopw [3, 4, 5, 6, 7] (fun i _ _ _ _ wr => ∃ k : Nat, k ≤ bs.length ∧ i = .int .i64 k ∧ Below w.heap.size w wr ∧ Hid (BatTo bs k)) (fun i _ _ _ _ _ => bs.length - (intOf i).toNat)
  case atStart => exact ⟨0, Nat.zero_le _, rfl, Below.refl _ _, ⟨fun i x h => by omega, fun i x y h => by omega⟩⟩
  case round =>
    generalize wr = W0 at *
    obtain ⟨k, hk, rfl, hbl, HR⟩ := hrel
    have hsz := hbl.size
    have HBl := hide hbl
    clear hbl
    by_cases hlt : k < bs.length
    · obtain ⟨⟨y1, y2⟩, hy⟩ : ∃ y, bs[k]? = some y := ⟨_, List.getElem?_eq_getElem hlt⟩
      have KS := HS.out.below HBl.out hB
      obtain ⟨b, o, la, lc, sa, sc, rfl, hb, c1, c2, hLa, hSa⟩ := KS.get hy
      have hbw : b < W0.heap.size := by omega
      have hym := List.mem_of_getElem? hy
      have hl1 : y1.length ≤ 10000000000000 := HSm.out.labels _ hym
      have hl2 : y2.length ≤ 10000000000000 := HSm.out.samples _ hym
      have HY := hide hy
      have HLa := hide hLa
      have HSa := hide hSa
      have HKS := hide KS
      clear hy hym KS hLa hSa
      simp only at c1 c2
      go_wp2
      go_loopw [5] (fun q wr2 => ∃ t : Nat, t ≤ y1.length ∧ q = .int .i64 t ∧ Below W0.heap.size W0 wr2 ∧ Hid (LabsTo y1 t)) (fun q _ => y1.length - (intOf q).toNat)
      case atStart => exact ⟨0, Nat.zero_le _, rfl, Below.refl _ _, ⟨fun i x h => by omega, fun i x y h => by omega⟩⟩
      case round =>
        obtain ⟨t, ht, rfl, hb2, HR2⟩ := hrel
        have hsz2 := hb2.size
        have HB2 := hide hb2
        have HBA := hide (HBl.out.trans (hb2.mono hsz))
        clear hb2
        by_cases hlt2 : t < y1.length
        · obtain ⟨⟨p1, p2⟩, hp⟩ : ∃ p, y1[t]? = some p := ⟨_, List.getElem?_eq_getElem hlt2⟩
          have KL := HLa.out.below HB2.out (by omega)
          obtain ⟨lb, lo, rfl, hlb, e1, e2⟩ := KL.get hp
          have hlbw : lb < wr.heap.size := by omega
          have HP := hide hp
          clear hp
          simp only at e1 e2
          by_cases h1 : p1.size < 1
          · have hno : ¬ BatchOk bs := fun h => by have h3 := ((h.1 k _ hlt HY.out).1.1 t _ hlt2 HP.out).1; rw [empty_size] at h3; exact of_decide_eq_false h3 h1
            have g1 : (p1.size : Int) < 1 := by omega
            have HNo := hide hno
            clear hno HR HY HP HR2
            go_wp2
            go_quiet (fail)
            go_wp2
            go_ret
            exact ⟨BoolOf.no HNo.out, below_drewN HBA.out _⟩
          have g1 : ¬ (p1.size : Int) < 1 := by omega
          have g1b : ¬ p1.size = 0 := by omega
          have g1c : decide (p1.size < 1) = false := decide_eq_false h1
          have g1d : decide ((p1.size : Int) < 1) = false := decide_eq_false g1
          by_cases h2 : 16 < p1.size
          · have hno : ¬ BatchOk bs := fun h => by have h3 : p1.size ≤ 16 := ((h.1 k _ hlt HY.out).1.1 t _ hlt2 HP.out).2.1; omega
            have g2 : (16 : Int) < (p1.size : Int) := by omega
            have g2c : decide (16 < p1.size) = true := decide_eq_true h2
            have HNo := hide hno
            clear hno HR HY HP HR2
            go_wp2
            go_quiet (fail)
            go_wp2
            go_ret
            exact ⟨BoolOf.no HNo.out, below_drewN HBA.out _⟩
          have g2 : ¬ (16 : Int) < (p1.size : Int) := by omega
          have g2c : decide (16 < p1.size) = false := decide_eq_false h2
          have g2d : decide ((16 : Int) < (p1.size : Int)) = false := decide_eq_false g2
          by_cases h3 : 16 < p2.size
          · have hno : ¬ BatchOk bs := fun h => by have h3 : p2.size ≤ 16 := ((h.1 k _ hlt HY.out).1.1 t _ hlt2 HP.out).2.2; omega
            have g3 : (16 : Int) < (p2.size : Int) := by omega
            have g3c : decide (16 < p2.size) = true := decide_eq_true h3
            have HNo := hide hno
            clear hno HR HY HP HR2
            go_wp2
            go_quiet (fail)
            go_wp2
            go_ret
            exact ⟨BoolOf.no HNo.out, below_drewN HBA.out _⟩
          have g3 : ¬ (16 : Int) < (p2.size : Int) := by omega
          have g3c : decide (16 < p2.size) = false := decide_eq_false h3
          have g3d : decide ((16 : Int) < (p2.size : Int)) = false := decide_eq_false g3
          have hok : KeyOk (p1, p2) := ⟨by rw [empty_size]; exact decide_eq_false h1, by show p1.size ≤ 16; omega, by show p2.size ≤ 16; omega⟩
          have HOk := hide hok
          clear hok
          cases t with
          | zero =>
            simp only [Nat.zero_mul, Nat.add_zero] at e1 e2
            go_wp2
            go_quiet (fail)
            go_wp2
            go_roundw
            case rel => exact ⟨1, by omega, by go_num, below_drewN HB2.out _, HR2.out.one HOk.out HP.out⟩
            case measure => simp [intOf]; omega
          | succ j =>
            obtain ⟨⟨x1, x2⟩, hx⟩ : ∃ x, y1[j]? = some x := ⟨_, List.getElem?_eq_getElem (by omega)⟩
            obtain ⟨b2, o2, hh2, _, d1, _⟩ := KL.get hx
            cases hh2
            have HX := hide hx
            clear hx
            simp only at d1
            have hj0 : (0 : Int) < ((j + 1 : Nat) : Int) := by omega
            have hj1 : (j : Int) < (y1.length : Int) := by omega
            have hj2 : (0 : Int) ≤ (j : Int) := by omega
            have hjw : IntKind.i64.wrap (j : Int) = (j : Int) := by rw [IntKind.wrap_i64]; omega
            have hjw2 : IntKind.i64.wrap (((j + 1 : Nat) : Int) - 1) = (j : Int) := by rw [IntKind.wrap_i64]; omega
            cases hless : Op.bytesLess x1.toList p1.toList with
            | false =>
              have hno : ¬ BatchOk bs := fun h => by have h4 := (h.1 k _ hlt HY.out).1.2 j _ _ (by omega) HX.out HP.out; simp [hless] at h4
              have HNo := hide hno
              clear hno HR HY HP HR2
              go_wp2
              go_quiet (fail)
              go_wp2
              go_ret
              exact ⟨BoolOf.no HNo.out, below_drewN HBA.out _⟩
            | true =>
              go_wp2
              go_quiet (fail)
              go_wp2
              go_roundw
              case rel => exact ⟨j + 2, by omega, by go_num, below_drewN HB2.out _, HR2.out.succ HX.out HP.out HOk.out hless⟩
              case measure => simp [intOf]; omega
        · have hte : t = y1.length := by omega
          have HLok : Hid (LabelsOk y1) := by show LabsTo y1 y1.length; rw [← hte]; exact HR2.out
          generalize wr = W1 at *
          have k1 := (HB2.out.cell (p := ⟨b, o + k * 2, none⟩) hbw).trans c1
          have k2 := (HB2.out.cell (p := ⟨b, o + k * 2 + 1, none⟩) hbw).trans c2
          have hbw1 : b < W1.heap.size := by omega
          clear c1 c2 HR2 hte
          by_cases h0 : y2.length < 1
          · have hno : ¬ BatchOk bs := fun h => (h.1 k _ hlt HY.out).2.1 (List.eq_nil_of_length_eq_zero (by show y2.length = 0; omega))
            have g0 : (y2.length : Int) < 1 := by omega
            have g0b : y2.length = 0 := by omega
            have g0c : decide (y2.length < 1) = true := decide_eq_true h0
            have HNo := hide hno
            clear hno HR HY
            go_wp2
            go_ret
            exact ⟨BoolOf.no HNo.out, HBA.out⟩
          have g0 : ¬ (y2.length : Int) < 1 := by omega
          have g0b : ¬ y2.length = 0 := by omega
          have g0c : decide (y2.length < 1) = false := decide_eq_false h0
          have g0d : decide ((y2.length : Int) < 1) = false := decide_eq_false g0
          go_wp2
          go_loopw [6] (fun q wr3 => ∃ t : Nat, 1 ≤ t ∧ t ≤ y2.length ∧ q = .int .i64 t ∧ Below W1.heap.size W1 wr3 ∧ Hid (RisesTo y2 t)) (fun q _ => y2.length - (intOf q).toNat)
          case atStart => exact ⟨1, by omega, by omega, rfl, Below.refl _ _, rises_one y2⟩
          case round =>
            obtain ⟨u, hu1, hu, rfl, hb3, HR3⟩ := hrel
            have hsz3 := hb3.size
            have HB3 := hide hb3
            have HBC := hide (HBA.out.trans (hb3.mono (by omega)))
            have m1 := (hb3.cell (p := ⟨b, o + k * 2, none⟩) hbw1).trans k1
            have m2 := (hb3.cell (p := ⟨b, o + k * 2 + 1, none⟩) hbw1).trans k2
            have hbw3 : b < wr.heap.size := by omega
            clear hb3
            by_cases hlt3 : u < y2.length
            · obtain ⟨j, rfl⟩ : ∃ j, u = j + 1 := ⟨u - 1, by omega⟩
              obtain ⟨⟨x1, x2⟩, hx⟩ : ∃ x, y2[j]? = some x := ⟨_, List.getElem?_eq_getElem (by omega)⟩
              obtain ⟨⟨z1, z2⟩, hz⟩ : ∃ x, y2[j + 1]? = some x := ⟨_, List.getElem?_eq_getElem (by omega)⟩
              have KS3 := (HSa.out.below HB2.out (by omega)).below HB3.out (by omega)
              obtain ⟨sb, so, rfl, hsb, e1, _⟩ := KS3.get hx
              obtain ⟨sb2, so2, hh3, _, e2, _⟩ := KS3.get hz
              cases hh3
              have HX := hide hx
              have HZ := hide hz
              clear hx hz KS3
              simp only at e1 e2
              have hj1 : (j : Int) < (y2.length : Int) := by omega
              have hj2 : (0 : Int) ≤ (j : Int) := by omega
              have hjw : IntKind.i64.wrap (j : Int) = (j : Int) := by rw [IntKind.wrap_i64]; omega
              have hjw2 : IntKind.i64.wrap (((j + 1 : Nat) : Int) - 1) = (j : Int) := by rw [IntKind.wrap_i64]; omega
              by_cases hge : z1 ≤ x1
              · have hno : ¬ BatchOk bs := fun h => by have h4 : x1 < z1 := (h.1 k _ hlt HY.out).2.2 j _ _ (by omega) HX.out HZ.out; omega
                have HNo := hide hno
                clear hno HR HY HX HZ HR3
                go_wp2
                go_quiet (fail)
                go_wp2
                go_ret
                exact ⟨BoolOf.no HNo.out, below_drewN HBC.out _⟩
              · have HR4 := hide (rises_more HR3.out HX.out HZ.out (by show x1 < z1; omega))
                clear HR3 HX HZ
                go_wp2
                go_quiet (fail)
                go_wp2
                go_roundw
                case rel => exact ⟨j + 2, by omega, by omega, by go_num, below_drewN HB3.out _, HR4.out⟩
                case measure => simp [intOf]; omega
            · have hue : u = y2.length := by omega
              have HSok : Hid (SamplesOk y2) := ⟨fun e => by rw [e] at h0; exact h0 (by simp), by rw [← hue]; exact HR3.out⟩
              clear HR3 hue
              cases k with
              | zero =>
                go_wp2
                go_roundw
                case rel => exact ⟨1, by omega, by go_num, HBC.out, HR.out.one HY.out HLok.out HSok.out⟩
                case measure => simp [intOf]; omega
              | succ j =>
                obtain ⟨⟨x1, x2⟩, hx⟩ : ∃ x, bs[j]? = some x := ⟨_, List.getElem?_eq_getElem (by omega)⟩
                have K3 := (HKS.out.below HB2.out (by omega)).below HB3.out (by omega)
                obtain ⟨b2, o2, la2, lc2, sa2, sc2, hh2, hb2, d1, _, hL2, _⟩ := K3.get hx
                cases hh2
                have hLy := (HLa.out.below HB2.out (by omega)).below HB3.out (by omega)
                have C := hide (refOrder_any B _ _ x1 y1 wr hL2 hLy (by omega) (HSm.out.labels _ (List.mem_of_getElem? hx)))
                have HX := hide hx
                clear hx K3 hL2 hLy
                simp only at d1
                have hj0 : (0 : Int) < ((j + 1 : Nat) : Int) := by omega
                have hj1 : (j : Int) < (bs.length : Int) := by omega
                have hj2 : (0 : Int) ≤ (j : Int) := by omega
                have hjw : IntKind.i64.wrap (j : Int) = (j : Int) := by rw [IntKind.wrap_i64]; omega
                have hjw2 : IntKind.i64.wrap (((j + 1 : Nat) : Int) - 1) = (j : Int) := by rw [IntKind.wrap_i64]; omega
                generalize hcq : cmpLabs x1 y1 = q at *
                have HQ : Hid (cmpLabs x1 y1 = q) := hcq
                clear hcq
                go_wp2_with fail
                refine C.out.mono ?_
                rintro e w4 ⟨rfl, hb4⟩
                have HB4 := hide (HBC.out.trans (hb4.mono (by omega)))
                clear hb4 m1 m2 d1 C
                by_cases hc : 0 ≤ q
                · have hno : ¬ BatchOk bs := fun h => by have h2 : cmpLabs x1 y1 < 0 := h.2 j _ _ (by omega) HX.out HY.out; rw [HQ.out] at h2; omega
                  have HNo := hide hno
                  clear hno HR HY HX
                  go_wp2
                  go_ret
                  exact ⟨BoolOf.no HNo.out, HB4.out⟩
                · have HR5 := hide (HR.out.succ HX.out HY.out HLok.out HSok.out (by show cmpLabs x1 y1 < 0; rw [HQ.out]; omega))
                  clear HR HY HX
                  go_wp2
                  go_roundw
                  case rel => exact ⟨j + 2, by omega, by go_num, HB4.out, HR5.out⟩
                  case measure => simp [intOf]; omega
    · have hke : k = bs.length := by omega
      have HY : Hid (BatchOk bs) := by show BatTo bs bs.length; rw [← hke]; exact HR.out
      clear hke
      go_wp2
      go_ret
      exact ⟨BoolOf.yes HY.out, HBl.out⟩
end Go.Proofs.YtcidgfdiacehmaaDoor

/- The reference: Check, Encode. -/
namespace Go.Proofs.YtcidgfdiacehmaaDoor
open Go.RowKit Go.Lib

theorem Code.unique {bs : List Ser} {n m : Nat} (h : Code bs n) (g : Code bs m) : n = m := by
  rcases h with ⟨rfl, h⟩ | ⟨rfl, h, h'⟩ | ⟨rfl, h, h'⟩ <;> rcases g with ⟨rfl, g⟩ | ⟨rfl, g, g'⟩ | ⟨rfl, g, g'⟩ <;> first | rfl | exact absurd g h | exact absurd h g | exact absurd g' h' | exact absurd h' g'

set_option maxRecDepth 100000 in
set_option maxHeartbeats 400000 in
theorem refCheck_any (B : Nat) (v : Value) (bs : List Ser) (w : World) (hS : BatchAt w B v bs) (hB : B ≤ w.heap.size) (hsm : Small bs) :
    Calls Tryd.prog 23 #[v] w fun e w' => (∃ n : Nat, e = .returned (.int .i64 n) ∧ Code bs n) ∧ Below w.heap.size w w' := by
  obtain ⟨a, c, rfl, _⟩ := id hS
  have C1 := hide (refGood_any B _ bs w hS hB hsm)
  have HS := hide hS
  have HSm := hide hsm
  clear hS hsm
  go_enter Tryd.func23, Tryd.ntmps23
  go_wp2_with fail
  refine C1.out.mono ?_
  rintro e w1 ⟨⟨r1, rfl, hr1⟩, hb1⟩
  have hs1 := hb1.size
  have C2 := hide (refWithin_any B _ bs w1 (HS.out.below hb1 hB) (by omega) HSm.out.series)
  have HB1 := hide hb1
  have HR1 := hide hr1
  clear hb1 hr1 C1
  go_wp2_with fail
  refine C2.out.mono ?_
  rintro e w2 ⟨⟨r2, rfl, hr2⟩, hb2⟩
  have HB2 := hide (HB1.out.trans (hb2.mono hs1))
  have HR2 := hide hr2
  clear hb2 hr2 C2
  cases r1 with
  | false =>
    have HC : Hid (Code bs 1) := .inl ⟨rfl, fun h => by have := HR1.out.2 h; cases this⟩
    go_wp2
    go_ret
    exact ⟨⟨1, rfl, HC.out⟩, HB2.out⟩
  | true =>
    cases r2 with
    | false =>
      have HC : Hid (Code bs 2) := .inr (.inl ⟨rfl, HR1.out.1 rfl, fun h => by have := HR2.out.2 h; cases this⟩)
      go_wp2
      go_ret
      exact ⟨⟨2, rfl, HC.out⟩, HB2.out⟩
    | true =>
      have HC : Hid (Code bs 0) := .inr (.inr ⟨rfl, HR1.out.1 rfl, HR2.out.1 rfl⟩)
      go_wp2
      go_ret
      exact ⟨⟨0, rfl, HC.out⟩, HB2.out⟩

set_option maxRecDepth 100000 in
set_option maxHeartbeats 400000 in
theorem refEncode_any (B : Nat) (v : Value) (bs : List Ser) (w : World) (hS : BatchAt w B v bs) (hB : B ≤ w.heap.size) (hsm : Small bs) :
    Calls Tryd.prog 9 #[v] w fun e w' => (∃ n : Nat, Code bs n ∧ e = .returned (.tuple #[.string (if n = 0 then ⟨(frameOf (payload bs)).toArray⟩ else ByteArray.empty), .int .i64 n])) ∧ Below w.heap.size w w' := by
  obtain ⟨a, c, rfl, _⟩ := id hS
  have C1 := hide (refCheck_any B _ bs w hS hB hsm)
  have HS := hide hS
  clear hS hsm
  go_enter Tryd.func9, Tryd.ntmps9
  go_wp2_with fail
  refine C1.out.mono ?_
  rintro e w1 ⟨⟨n, rfl, hn⟩, hb1⟩
  have hs1 := hb1.size
  have HB1 := hide hb1
  have hn' := hn
  rcases hn' with ⟨rfl, _⟩ | ⟨rfl, _, _⟩ | ⟨rfl, h1, h2⟩
  · have HN := hide hn
    clear hn hb1 C1
    go_wp2
    go_ret2
    exact ⟨⟨1, HN.out, rfl⟩, HB1.out⟩
  · have HN := hide hn
    clear hn hb1 C1
    go_wp2
    go_ret2
    exact ⟨⟨2, HN.out, rfl⟩, HB1.out⟩
  · have HN := hide hn
    have C2 := hide (refFrame_any B _ bs w1 (HS.out.below hb1 hB) (by omega) (fits_of h1 h2))
    clear hn hb1 C1 h1 h2
    go_wp2_with fail
    refine C2.out.mono ?_
    rintro e w2 ⟨rfl, hb2⟩
    have HB2 := hide (HB1.out.trans (hb2.mono hs1))
    clear hb2 C2
    go_wp2
    go_ret2
    exact ⟨⟨0, HN.out, rfl⟩, HB2.out⟩
end Go.Proofs.YtcidgfdiacehmaaDoor

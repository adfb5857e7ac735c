/- Numbers and texts that are packed are read again: pure. -/
import Derived.Test.YthpfknlbhojonaaDoorInvBits
namespace Go.Proofs.YthpfknlbhojonaaDoor

/-- Bytes as a string's value. -/
def BA (l : List UInt8) : ByteArray := ⟨l.toArray⟩
theorem BA_size (l : List UInt8) : (BA l).size = l.length := by show l.toArray.size = _; simp
theorem BA_list (l : List UInt8) : (BA l).data.toList = l := by show l.toArray.toList = _; simp
theorem BA_of (s : ByteArray) : BA s.data.toList = s := by cases s; simp [BA]
theorem BA_drop (a c : List UInt8) : (BA (a ++ c)).extract a.length (a ++ c).length = BA c := by
  apply ByteArray.ext
  rw [ByteArray.data_extract]
  simp [BA]
theorem BA_take (a c : List UInt8) : (BA (a ++ c)).extract 0 a.length = BA a := by
  apply ByteArray.ext
  rw [ByteArray.data_extract]
  simp [BA]

theorem getD_last (C : List UInt8) (b : UInt8) (rest : List UInt8) : ((b :: rest) ++ C).getD 0 0 = b := rfl
theorem ofNat_toNat (m : Nat) (h : m < 256) : (UInt8.ofNat m).toNat = m := by simp [UInt8.toNat_ofNat']; omega
theorem rdNum_varint (C : List UInt8) (f : Nat) : ∀ (m k F : Nat) (l : List UInt8) (most : Int), m < 2 ^ (7 * (f + 1)) → (∀ j, l.getD (k + j) 0 = (Pl.varintF f m ++ C).getD j 0) → (Pl.varintF f m).length ≤ F →
    ((numTo l k + m * 2 ^ (7 * k) : Nat) : Int) ≤ most → rdNum l most F k = some (numTo l k + m * 2 ^ (7 * k), k + (Pl.varintF f m).length) := by
  have hlast : ∀ (m k F : Nat) (l : List UInt8) (most : Int), m < 128 → l.getD k 0 = UInt8.ofNat m → 1 ≤ F → ((numTo l k + m * 2 ^ (7 * k) : Nat) : Int) ≤ most → rdNum l most F k = some (numTo l k + m * 2 ^ (7 * k), k + 1) := by
    intro m k F l most hm hl hF hmost
    obtain ⟨F', rfl⟩ : ∃ F', F = F' + 1 := ⟨F - 1, by omega⟩
    have hb : (l.getD k 0).toNat = m := by rw [hl, ofNat_toNat m (by omega)]
    have hn : numTo l (k + 1) = numTo l k + m * 2 ^ (7 * k) := by rw [numTo, hb, Nat.mod_eq_of_lt hm]
    rw [rdNum, hb, if_neg (by omega), hn, if_neg (by omega)]
  induction f with
  | zero =>
    intro m k F l most hm hl hF hmost
    have h0 := hl 0
    rw [Nat.add_zero] at h0
    exact hlast m k F l most (by omega) (by rw [h0]; rfl) (by simpa [Pl.varintF] using hF) hmost
  | succ f ih =>
    intro m k F l most hm hl hF hmost
    by_cases hs : m < 128
    · rw [Pl.varintF_small _ _ hs] at hl hF ⊢
      have h0 := hl 0
      rw [Nat.add_zero] at h0
      exact hlast m k F l most hs (by rw [h0]; rfl) (by simpa using hF) hmost
    · rw [Pl.varintF_big _ _ hs] at hl hF ⊢
      have h0 := hl 0
      rw [Nat.add_zero] at h0
      rw [List.length_cons] at hF
      obtain ⟨F', rfl⟩ : ∃ F', F = F' + 1 := ⟨F - 1, by omega⟩
      have hb : (l.getD k 0).toNat = m % 128 + 128 := by
        rw [h0]
        show (UInt8.ofNat (m % 128 + 128)).toNat = _
        exact ofNat_toNat _ (by omega)
      have hn : numTo l (k + 1) = numTo l k + m % 128 * 2 ^ (7 * k) := by rw [numTo, hb]; congr 2; omega
      have hp : 2 ^ (7 * (k + 1)) = 128 * 2 ^ (7 * k) := by rw [show 7 * (k + 1) = 7 * k + 7 by omega, Nat.pow_add]; omega
      have hsum : numTo l (k + 1) + m / 128 * 2 ^ (7 * (k + 1)) = numTo l k + m * 2 ^ (7 * k) := by
        rw [hn, hp, Nat.add_assoc]
        congr 1
        rw [← Nat.mul_assoc, ← Nat.add_mul]
        congr 1
        omega
      rw [rdNum, hb, if_pos (by omega)]
      have h := ih (m / 128) (k + 1) F' l most (by
        rw [show 7 * (f + 1 + 1) = 7 * (f + 1) + 7 by omega, Nat.pow_add] at hm; omega) (fun j => by
        have := hl (j + 1)
        rw [show k + (j + 1) = k + 1 + j by omega] at this
        rw [this]; rfl) (by omega) (by rw [hsum]; exact hmost)
      rw [h, hsum, List.length_cons]
      simp; omega
theorem varintF_len (f : Nat) : ∀ (n j : Nat), n < 2 ^ (7 * (j + 1)) → (Pl.varintF f n).length ≤ j + 1 := by
  induction f with
  | zero => intro n j _; simp [Pl.varintF]
  | succ f ih =>
    intro n j h
    by_cases hs : n < 128
    · rw [Pl.varintF_small _ _ hs]; simp
    · rw [Pl.varintF_big _ _ hs, List.length_cons]
      cases j with
      | zero => omega
      | succ j =>
        have := ih (n / 128) j (by rw [show 7 * (j + 1 + 1) = 7 * (j + 1) + 7 by omega, Nat.pow_add] at h; omega)
        omega
theorem rdNum_of (n : Nat) (C : List UInt8) (most : Int) (hn : n < 2 ^ 63) (hm : (n : Int) ≤ most) : rdNum (Pl.varint n ++ C) most (min (Pl.varint n ++ C).length 9) 0 = some (n, (Pl.varint n).length) := by
  have hl : (Pl.varint n).length ≤ 9 := varintF_len 9 n 8 hn
  have h := rdNum_varint C 9 n 0 (min (Pl.varint n ++ C).length 9) (Pl.varint n ++ C) most (by omega) (fun j => by rw [Nat.zero_add]; rfl) (by
    show (Pl.varint n).length ≤ _
    rw [List.length_append]; omega) (by simpa [numTo] using hm)
  rw [h]
  simp [numTo, Pl.varint]
theorem numR_of (n : Nat) (C : List UInt8) (most : Int) (st : Nat) (hn : n < 2 ^ 63) (hm : (n : Int) ≤ most) : numR (BA (Pl.varint n ++ C)) most st = (n, BA C, st) := by
  unfold numR
  rw [BA_list, BA_size, rdNum_of n C most hn hm]
  simp only
  rw [BA_drop]
theorem textR_of (x C : List UInt8) (most : Int) (st : Nat) (hn : x.length < 2 ^ 63) (hm : (x.length : Int) ≤ most) : textR (BA (Pl.varint x.length ++ (x ++ C))) most st = (BA x, BA C, st) := by
  unfold textR
  rw [BA_list, BA_size, rdNum_of _ _ most hn hm]
  simp only
  rw [BA_drop, BA_size, if_pos (by rw [List.length_append, List.length_append]; omega), BA_take, BA_drop]
end Go.Proofs.YthpfknlbhojonaaDoor

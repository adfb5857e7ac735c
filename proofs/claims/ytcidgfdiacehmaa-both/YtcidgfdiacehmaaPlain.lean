/- Plain functions on lists and numbers, and what is true of them: the sum. No program here. -/
import Derived.Laws.BitsLemmas
import Derived.Laws.Bits64
import Derived.Laws.Bits64b
namespace Go.Proofs.Ytcidgfdiacehmaa.Pl

/-- One bit of CRC-32C, the reversed kind. -/
def crcBit (n : Nat) : Nat := if n % 2 = 1 then (n / 2) ^^^ 2197175160 else n / 2
/-- k bits. -/
def crcIt : Nat → Nat → Nat
  | 0, n => n
  | k + 1, n => crcBit (crcIt k n)
def crcByte (n : Nat) (b : UInt8) : Nat := crcIt 8 (n ^^^ b.toNat)
def crcAll (n : Nat) (l : List UInt8) : Nat := l.foldl crcByte n
def crc (l : List UInt8) : Nat := crcAll 4294967295 l ^^^ 4294967295

theorem crcBit_lt (n : Nat) (h : n < 2 ^ 32) : crcBit n < 2 ^ 32 := by
  unfold crcBit
  split
  · exact Nat.xor_lt_two_pow (by omega) (by decide)
  · omega
theorem crcIt_lt (k n : Nat) (h : n < 2 ^ 32) : crcIt k n < 2 ^ 32 := by
  induction k with
  | zero => exact h
  | succ k ih => exact crcBit_lt _ ih
theorem crcByte_lt (n : Nat) (b : UInt8) (h : n < 2 ^ 32) : crcByte n b < 2 ^ 32 :=
  crcIt_lt _ _ (Nat.xor_lt_two_pow h (by have := b.toNat_lt; omega))
theorem crcAll_lt (l : List UInt8) (n : Nat) (h : n < 2 ^ 32) : crcAll n l < 2 ^ 32 := by
  induction l generalizing n with
  | nil => exact h
  | cons b l ih => exact ih _ (crcByte_lt n b h)
theorem crc_lt (l : List UInt8) : crc l < 2 ^ 32 := Nat.xor_lt_two_pow (crcAll_lt l _ (by decide)) (by decide)
theorem crcAll_snoc (n : Nat) (l : List UInt8) (b : UInt8) : crcAll n (l ++ [b]) = crcByte (crcAll n l) b := by
  simp [crcAll]

theorem bits_xor_u32_nat (a b : Nat) (ha : a < 2 ^ 32) (hb : b < 2 ^ 32) : bits .xor .u32 (a : Int) (b : Int) = ((a ^^^ b : Nat) : Int) := by
  have hx : a ^^^ b < 2 ^ 32 := Nat.xor_lt_two_pow ha hb
  have h1 : (BitVec.ofInt 32 (a : Int)).toNat = a := by
    rw [BitVec.ofInt_natCast, BitVec.toNat_ofNat]; exact Nat.mod_eq_of_lt (by omega)
  have h2 : (BitVec.ofInt 32 (b : Int)).toNat = b := by
    rw [BitVec.ofInt_natCast, BitVec.toNat_ofNat]; exact Nat.mod_eq_of_lt (by omega)
  show IntKind.u32.wrap ((BitVec.ofInt 32 (a : Int) ^^^ BitVec.ofInt 32 (b : Int)).toNat : Int) = _
  rw [BitVec.toNat_xor, h1, h2, IntKind.wrap_u32]
  omega
theorem wraps_u32 (n : Int) (h₀ : 0 ≤ n) (h₁ : n < 2 ^ 32) : IntKind.u32.wrap n = n := by rw [IntKind.wrap_u32]; omega
theorem bits_and1_u32 (a : Nat) (ha : a < 2 ^ 32) : bits .and .u32 (a : Int) 1 = ((a % 2 : Nat) : Int) := by
  have := bits_mask .u32 32 (by decide) wraps_u32 1 (by decide) a (by omega) (by omega)
  simpa using this

/-- A varint, with fuel. -/
def varintF : Nat → Nat → List UInt8
  | 0, n => [UInt8.ofNat n]
  | f + 1, n => if n < 128 then [UInt8.ofNat n] else UInt8.ofNat (n % 128 + 128) :: varintF f (n / 128)
def varint (n : Nat) : List UInt8 := varintF 9 n
theorem varintF_small (f n : Nat) (h : n < 128) : varintF f n = [UInt8.ofNat n] := by
  cases f <;> simp [varintF, h]
theorem varintF_big (f n : Nat) (h : ¬ n < 128) : varintF (f + 1) n = UInt8.ofNat (n % 128 + 128) :: varintF f (n / 128) := by
  simp [varintF, h]
theorem varintF_length (f n : Nat) : (varintF f n).length ≤ f + 1 := by
  induction f generalizing n with
  | zero => simp [varintF]
  | succ f ih => unfold varintF; split <;> simp <;> have := ih (n / 128) <;> omega
theorem varint_length (n : Nat) : (varint n).length ≤ 10 := varintF_length 9 n
theorem u8_ofNat (n : Nat) (h : n < 256) : ((UInt8.ofNat n).toNat : Int) = (n : Int) := by
  simp [UInt8.toNat_ofNat']; omega
theorem wraps_i64 (n : Int) (h₀ : 0 ≤ n) (h₁ : n < 2 ^ 63) : IntKind.i64.wrap n = n := by rw [IntKind.wrap_i64]; omega
theorem and127_i64 (m : Nat) (h : m < 2 ^ 63) : bits .and .i64 (m : Int) 127 = ((m % 128 : Nat) : Int) := by
  have := bits_mask .i64 63 (by decide) wraps_i64 7 (by decide) m (by omega) (by omega)
  simpa using this
theorem or128_i64 (m : Nat) (h : m < 128) : bits .or .i64 (m : Int) 128 = ((m + 128 : Nat) : Int) := by
  have h1 := (bits_nat .i64 63 (by decide) wraps_i64 m 128 (by omega) (by decide)).2
  have h2 : m ||| 128 = m + 128 := by
    have := Nat.two_pow_add_eq_or_of_lt (i := 7) (b := m) (by omega) 1
    rw [Nat.or_comm, Nat.add_comm]; simpa using this.symm
  rw [← h2, ← h1]; rfl

/-- A byte as a cell's value. -/
def B (b : UInt8) : Value := .int .u8 b.toNat
def Bs (l : List UInt8) : List Value := l.map B
theorem Bs_append (a b : List UInt8) : Bs (a ++ b) = Bs a ++ Bs b := by simp [Bs]
theorem Bs_length (a : List UInt8) : (Bs a).length = a.length := by simp [Bs]
end Go.Proofs.Ytcidgfdiacehmaa.Pl

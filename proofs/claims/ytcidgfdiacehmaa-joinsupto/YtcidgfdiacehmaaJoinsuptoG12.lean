/- 'choirlaw.Joins', for any two lists of series of bulk at most 1048576: Join answers the document's join or error, either way round; what is handed in stays, what comes out is its owner's. The second form's statement: its only condition is the row's own bound on the arguments' bulk. -/
import Derived.Laws.BitsLemmas
import Derived.Laws.Bits64
import Derived.Laws.Bits64b
/- Plain functions on lists and numbers, and what is true of them: the sum. No program here. -/
namespace Go.Proofs.Ytcidgfdiacehmaa.Pl

/-- One bit of CRC-32C, the reversed kind. -/
def crcBit (n : Nat) : Nat := if n % 2 = 1 then (n / 2) ^^^ 2197175160 else n / 2
/-- k bits. -/
def crcIt : Nat → Nat → Nat
  | 0, n => n
  | k + 1, n => crcBit (crcIt k n)
def crcByte (n : Nat) (b : UInt8) : Nat := crcIt 8 (n ^^^ b.toNat)
def crcAll (n : Nat) (l : List UInt8) : Nat := l.foldl crcByte n
def crc (l : List UInt8) : Nat := crcAll 4294967295 l ^^^ 4294967295

theorem crcBit_lt (n : Nat) (h : n < 2 ^ 32) : crcBit n < 2 ^ 32 := by
  unfold crcBit
  split
  · exact Nat.xor_lt_two_pow (by omega) (by decide)
  · omega
theorem crcIt_lt (k n : Nat) (h : n < 2 ^ 32) : crcIt k n < 2 ^ 32 := by
  induction k with
  | zero => exact h
  | succ k ih => exact crcBit_lt _ ih
theorem crcByte_lt (n : Nat) (b : UInt8) (h : n < 2 ^ 32) : crcByte n b < 2 ^ 32 :=
  crcIt_lt _ _ (Nat.xor_lt_two_pow h (by have := b.toNat_lt; omega))
theorem crcAll_lt (l : List UInt8) (n : Nat) (h : n < 2 ^ 32) : crcAll n l < 2 ^ 32 := by
  induction l generalizing n with
  | nil => exact h
  | cons b l ih => exact ih _ (crcByte_lt n b h)
theorem crc_lt (l : List UInt8) : crc l < 2 ^ 32 := Nat.xor_lt_two_pow (crcAll_lt l _ (by decide)) (by decide)
theorem crcAll_snoc (n : Nat) (l : List UInt8) (b : UInt8) : crcAll n (l ++ [b]) = crcByte (crcAll n l) b := by
  simp [crcAll]

theorem bits_xor_u32_nat (a b : Nat) (ha : a < 2 ^ 32) (hb : b < 2 ^ 32) : bits .xor .u32 (a : Int) (b : Int) = ((a ^^^ b : Nat) : Int) := by
  have hx : a ^^^ b < 2 ^ 32 := Nat.xor_lt_two_pow ha hb
  have h1 : (BitVec.ofInt 32 (a : Int)).toNat = a := by
    rw [BitVec.ofInt_natCast, BitVec.toNat_ofNat]; exact Nat.mod_eq_of_lt (by omega)
  have h2 : (BitVec.ofInt 32 (b : Int)).toNat = b := by
    rw [BitVec.ofInt_natCast, BitVec.toNat_ofNat]; exact Nat.mod_eq_of_lt (by omega)
  show IntKind.u32.wrap ((BitVec.ofInt 32 (a : Int) ^^^ BitVec.ofInt 32 (b : Int)).toNat : Int) = _
  rw [BitVec.toNat_xor, h1, h2, IntKind.wrap_u32]
  omega
theorem wraps_u32 (n : Int) (h₀ : 0 ≤ n) (h₁ : n < 2 ^ 32) : IntKind.u32.wrap n = n := by rw [IntKind.wrap_u32]; omega
theorem bits_and1_u32 (a : Nat) (ha : a < 2 ^ 32) : bits .and .u32 (a : Int) 1 = ((a % 2 : Nat) : Int) := by
  have := bits_mask .u32 32 (by decide) wraps_u32 1 (by decide) a (by omega) (by omega)
  simpa using this

/-- A varint, with fuel. -/
def varintF : Nat → Nat → List UInt8
  | 0, n => [UInt8.ofNat n]
  | f + 1, n => if n < 128 then [UInt8.ofNat n] else UInt8.ofNat (n % 128 + 128) :: varintF f (n / 128)
def varint (n : Nat) : List UInt8 := varintF 9 n
theorem varintF_small (f n : Nat) (h : n < 128) : varintF f n = [UInt8.ofNat n] := by
  cases f <;> simp [varintF, h]
theorem varintF_big (f n : Nat) (h : ¬ n < 128) : varintF (f + 1) n = UInt8.ofNat (n % 128 + 128) :: varintF f (n / 128) := by
  simp [varintF, h]
theorem varintF_length (f n : Nat) : (varintF f n).length ≤ f + 1 := by
  induction f generalizing n with
  | zero => simp [varintF]
  | succ f ih => unfold varintF; split <;> simp <;> have := ih (n / 128) <;> omega
theorem varint_length (n : Nat) : (varint n).length ≤ 10 := varintF_length 9 n
theorem u8_ofNat (n : Nat) (h : n < 256) : ((UInt8.ofNat n).toNat : Int) = (n : Int) := by
  simp [UInt8.toNat_ofNat']; omega
theorem wraps_i64 (n : Int) (h₀ : 0 ≤ n) (h₁ : n < 2 ^ 63) : IntKind.i64.wrap n = n := by rw [IntKind.wrap_i64]; omega
theorem and127_i64 (m : Nat) (h : m < 2 ^ 63) : bits .and .i64 (m : Int) 127 = ((m % 128 : Nat) : Int) := by
  have := bits_mask .i64 63 (by decide) wraps_i64 7 (by decide) m (by omega) (by omega)
  simpa using this
theorem or128_i64 (m : Nat) (h : m < 128) : bits .or .i64 (m : Int) 128 = ((m + 128 : Nat) : Int) := by
  have h1 := (bits_nat .i64 63 (by decide) wraps_i64 m 128 (by omega) (by decide)).2
  have h2 : m ||| 128 = m + 128 := by
    have := Nat.two_pow_add_eq_or_of_lt (i := 7) (b := m) (by omega) 1
    rw [Nat.or_comm, Nat.add_comm]; simpa using this.symm
  rw [← h2, ← h1]; rfl

/-- A byte as a cell's value. -/
def B (b : UInt8) : Value := .int .u8 b.toNat
def Bs (l : List UInt8) : List Value := l.map B
theorem Bs_append (a b : List UInt8) : Bs (a ++ b) = Bs a ++ Bs b := by simp [Bs]
theorem Bs_length (a : List UInt8) : (Bs a).length = a.length := by simp [Bs]
end Go.Proofs.Ytcidgfdiacehmaa.Pl

/- A heap, pure: what container/heap's loops keep. -/
namespace Go.Proofs.Ytcidgfdiacehmaa.Hp

variable {α : Type}
/-- f with the places i and j turned round. -/
def swp (f : Nat → α) (i j : Nat) : Nat → α := fun k => if k = i then f j else if k = j then f i else f k
def IsHeap (le : α → α → Prop) (f : Nat → α) (n : Nat) : Prop := ∀ k, 0 < k → k < n → le (f ((k - 1) / 2)) (f k)
structure UpInv (le : α → α → Prop) (f : Nat → α) (n j : Nat) : Prop where
  rest : ∀ k, 0 < k → k < n → k ≠ j → le (f ((k - 1) / 2)) (f k)
  over : 0 < j → ∀ k, 0 < k → k < n → (k - 1) / 2 = j → le (f ((j - 1) / 2)) (f k)
structure DownInv (le : α → α → Prop) (f : Nat → α) (n i : Nat) : Prop where
  rest : ∀ k, 0 < k → k < n → (k - 1) / 2 ≠ i → le (f ((k - 1) / 2)) (f k)
  over : 0 < i → ∀ k, 0 < k → k < n → (k - 1) / 2 = i → le (f ((i - 1) / 2)) (f k)

theorem up_start {le : α → α → Prop} {f g : Nat → α} {n : Nat} (h : IsHeap le f n) (hg : ∀ k, k < n → g k = f k) : UpInv le g (n + 1) n := by
  refine ⟨fun k h0 hk hne => ?_, fun h0 k hk0 hk he => by omega⟩
  rw [hg _ (by omega), hg _ (by omega)]; exact h k h0 (by omega)
theorem up_step {le : α → α → Prop} (tot : ∀ a b, le a b ∨ le b a) (tr : ∀ {a b c}, le a b → le b c → le a c) {f : Nat → α} {n j : Nat} (h : UpInv le f n j) (hj : j < n) (h0 : 0 < j) (hlt : ¬ le (f ((j - 1) / 2)) (f j)) : UpInv le (swp f ((j - 1) / 2) j) n ((j - 1) / 2) := by
  have hle : le (f j) (f ((j - 1) / 2)) := (tot _ _).resolve_right hlt
  refine ⟨fun k hk0 hk hne => ?_, fun hp0 k hk0 hk he => ?_⟩
  · unfold swp
    by_cases e1 : k = j
    · subst e1
      rw [if_pos rfl, if_neg (by omega), if_pos rfl]; exact hle
    · rw [if_neg hne, if_neg e1]
      by_cases e2 : (k - 1) / 2 = (j - 1) / 2
      · rw [if_pos e2]
        have := h.rest k hk0 hk e1
        rw [e2] at this
        exact tr hle this
      · rw [if_neg e2]
        by_cases e3 : (k - 1) / 2 = j
        · rw [if_pos e3]; exact h.over h0 k hk0 hk e3
        · rw [if_neg e3]; exact h.rest k hk0 hk e1
  · unfold swp
    rw [if_neg (by omega), if_neg (by omega)]
    have hpp := h.rest ((j - 1) / 2) hp0 (by omega) (by omega)
    rw [if_neg (by omega)]
    by_cases e1 : k = j
    · rw [if_pos e1]; exact hpp
    · rw [if_neg e1]
      have := h.rest k hk0 hk e1
      rw [he] at this
      exact tr hpp this
theorem up_done {le : α → α → Prop} {f : Nat → α} {n j : Nat} (h : UpInv le f n j) (hd : j = 0 ∨ le (f ((j - 1) / 2)) (f j)) : IsHeap le f n := fun k h0 hk => by
  by_cases e : k = j
  · subst e
    rcases hd with hd | hd
    · omega
    · exact hd
  · exact h.rest k h0 hk e
theorem down_start {le : α → α → Prop} {f g : Nat → α} {n : Nat} (h : IsHeap le f (n + 1)) (hg : ∀ k, 0 < k → k < n → g k = f k) : DownInv le g n 0 := by
  refine ⟨fun k h0 hk hne => ?_, fun h0 => by omega⟩
  rw [hg _ (by omega) (by omega), hg _ (by omega) (by omega)]; exact h k h0 (by omega)
theorem down_step {le : α → α → Prop} (tot : ∀ a b, le a b ∨ le b a) {f : Nat → α} {n i c : Nat} (h : DownInv le f n i) (hc : c = 2 * i + 1 ∨ c = 2 * i + 2) (hcn : c < n) (hmin : ∀ d, d < n → (d = 2 * i + 1 ∨ d = 2 * i + 2) → le (f c) (f d)) (hlt : ¬ le (f i) (f c)) : DownInv le (swp f i c) n c := by
  have hle : le (f c) (f i) := (tot _ _).resolve_right hlt
  refine ⟨fun k hk0 hk hne => ?_, fun hp0 k hk0 hk he => ?_⟩
  · unfold swp
    by_cases e1 : (k - 1) / 2 = i
    · rw [if_pos e1]
      by_cases e2 : k = c
      · subst e2
        rw [if_neg (by omega), if_pos rfl]; exact hle
      · rw [if_neg (by omega), if_neg e2]
        exact hmin k hk (by omega)
    · rw [if_neg e1, if_neg (by omega)]
      by_cases e2 : k = i
      · subst e2
        rw [if_pos rfl]
        exact h.over hk0 c (by omega) hcn (by omega)
      · rw [if_neg e2]
        by_cases e3 : k = c
        · omega
        · rw [if_neg e3]; exact h.rest k hk0 hk e1
  · unfold swp
    have e : (c - 1) / 2 = i := by omega
    rw [if_pos e, if_neg (by omega), if_neg (by omega)]
    have := h.rest k hk0 hk (by omega)
    rw [he] at this; exact this
theorem down_done {le : α → α → Prop} {f : Nat → α} {n i : Nat} (h : DownInv le f n i) (hd : ∀ k, k < n → (k = 2 * i + 1 ∨ k = 2 * i + 2) → le (f i) (f k)) : IsHeap le f n := fun k h0 hk => by
  by_cases e : (k - 1) / 2 = i
  · rw [e]; exact hd k hk (by omega)
  · exact h.rest k h0 hk e
theorem heap_min {le : α → α → Prop} (tot : ∀ a b, le a b ∨ le b a) (tr : ∀ {a b c}, le a b → le b c → le a c) {f : Nat → α} {n : Nat} (h : IsHeap le f n) : ∀ k, k < n → le (f 0) (f k) := by
  intro k
  induction k using Nat.strongRecOn with
  | _ k ih =>
    intro hk
    by_cases e : k = 0
    · subst e; exact (tot _ _).elim id id
    · exact tr (ih ((k - 1) / 2) (by omega) (by omega)) (h k (by omega) hk)
/-- A list with two places turned round: it has the same members, as often. -/
theorem set_swap_perm (l : List α) (i j : Nat) (a b : α) (ha : l[i]? = some a) (hb : l[j]? = some b) : ((l.set i b).set j a).Perm l := by
  obtain ⟨hi, e1⟩ := List.getElem?_eq_some_iff.1 ha
  obtain ⟨hj, e2⟩ := List.getElem?_eq_some_iff.1 hb
  have h := Array.swap_perm (xs := l.toArray) (i := i) (j := j) (by simpa using hi) (by simpa using hj)
  have e : (l.toArray.swap i j (by simpa using hi) (by simpa using hj)).toList = (l.set i b).set j a := by
    rw [Array.swap_def]
    simp [e1, e2]
  have h2 := h.toList
  rw [e] at h2
  exact h2
end Go.Proofs.Ytcidgfdiacehmaa.Hp

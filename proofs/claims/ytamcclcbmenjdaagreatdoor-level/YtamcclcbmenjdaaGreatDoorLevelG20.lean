/- 'choirkeep.Level', for any list of steps (100 of them are done): when all are up, nothing is under way, and each has told each other one, all have the same, and compacted logs are the same bytes. The first form's statement and its card: no condition beside the row's own. -/
import Derived.Test.YtamcclcbmenjdaaGreatDoorLevelG19
import Derived.Test.YtamcclcbmenjdaaGreatDoorLevelG3
/- The sum tells a burst: a text of which bits are turned within 32 that follow one another bears its sum no more: pure. -/
namespace Go.Proofs.YtamcclcbmenjdaaGreatDoor.Pl

theorem crcBit_xor (a b : Nat) : crcBit (a ^^^ b) = crcBit a ^^^ crcBit b := by
  have h1 : (a ^^^ b) / 2 = a / 2 ^^^ b / 2 := by
    have := Nat.shiftRight_xor_distrib (a := a) (b := b) (i := 1)
    simpa [Nat.shiftRight_eq_div_pow] using this
  have h2 : (a ^^^ b) % 2 = (a % 2 + b % 2) % 2 := by
    have := Nat.xor_mod_two_pow (a := a) (b := b) (n := 1)
    simp only [Nat.pow_one] at this
    rw [this]
    have ha := Nat.mod_two_eq_zero_or_one a
    have hb := Nat.mod_two_eq_zero_or_one b
    rcases ha with ha | ha <;> rcases hb with hb | hb <;> rw [ha, hb] <;> rfl
  unfold crcBit
  rw [h1, h2]
  have ha := Nat.mod_two_eq_zero_or_one a
  have hb := Nat.mod_two_eq_zero_or_one b
  rcases ha with ha | ha <;> rcases hb with hb | hb <;> simp [ha, hb]
  · exact Nat.xor_assoc _ _ _
  · rw [Nat.xor_assoc, Nat.xor_comm (b / 2), ← Nat.xor_assoc]
  · rw [show a / 2 ^^^ 2197175160 ^^^ (b / 2 ^^^ 2197175160) = a / 2 ^^^ b / 2 ^^^ (2197175160 ^^^ 2197175160) by
      rw [Nat.xor_assoc, Nat.xor_assoc, ← Nat.xor_assoc 2197175160, Nat.xor_comm 2197175160 (b / 2), Nat.xor_assoc]]
    simp
theorem crcBit_ne (n : Nat) (h : n < 2 ^ 32) (h0 : n ≠ 0) : crcBit n ≠ 0 := by
  unfold crcBit
  split
  · intro e
    have hlt : n / 2 < 2 ^ 31 := by omega
    have e2 : n / 2 = 2197175160 := by
      have : n / 2 ^^^ 2197175160 ^^^ 2197175160 = 0 ^^^ 2197175160 := by rw [e]
      rw [Nat.xor_assoc, Nat.xor_self, Nat.xor_zero, Nat.zero_xor] at this
      exact this
    omega
  · omega
theorem crcBit_zero : crcBit 0 = 0 := by decide
theorem crcIt_ne (k n : Nat) (h : n < 2 ^ 32) (h0 : n ≠ 0) : crcIt k n ≠ 0 := by
  induction k with
  | zero => exact h0
  | succ k ih => exact crcBit_ne _ (crcIt_lt k n h) ih
theorem crcIt_zero (k : Nat) : crcIt k 0 = 0 := by
  induction k with
  | zero => rfl
  | succ k ih => rw [crcIt, ih, crcBit_zero]
theorem crcIt_xor (k a b : Nat) : crcIt k (a ^^^ b) = crcIt k a ^^^ crcIt k b := by
  induction k with
  | zero => rfl
  | succ k ih => rw [crcIt, ih, crcBit_xor]; rfl
theorem crcIt_bit (k n : Nat) : crcIt k (crcBit n) = crcIt (k + 1) n := by
  induction k with
  | zero => rfl
  | succ k ih => rw [crcIt, ih]; rfl

/-- Bit by bit. -/
def ser (n : Nat) (l : List Bool) : Nat := l.foldl (fun n b => crcBit (n ^^^ b.toNat)) n
/-- The number of which these are the bits, the lowest first. -/
def val : List Bool → Nat
  | [] => 0
  | b :: l => b.toNat + 2 * val l
theorem val_lt (l : List Bool) : val l < 2 ^ l.length := by
  induction l with
  | nil => simp [val]
  | cons b l ih => rw [val, List.length_cons, Nat.pow_succ]; cases b <;> simp <;> omega
theorem crcBit_even (m : Nat) : crcBit (2 * m) = m := by
  unfold crcBit; rw [if_neg (by omega)]; omega
theorem bit_add (b : Bool) (m : Nat) : b.toNat + 2 * m = b.toNat ^^^ (2 * m) := by
  cases b
  · simp
  · have := Nat.two_pow_add_eq_or_of_lt (i := 1) (b := 1) (by decide) m
    simp only [Nat.pow_one] at this
    show 1 + 2 * m = 1 ^^^ 2 * m
    apply Nat.eq_of_testBit_eq
    intro i
    rw [Nat.add_comm, this, Nat.testBit_or, Nat.testBit_xor]
    cases i with
    | zero => simp
    | succ i => simp [Nat.testBit_succ]
theorem ser_val (l : List Bool) : ∀ n, ser n l = crcIt l.length (n ^^^ val l) := by
  induction l with
  | nil => intro n; simp [ser, val, crcIt]
  | cons b l ih =>
    intro n
    show ser (crcBit (n ^^^ b.toNat)) l = _
    rw [ih, List.length_cons, ← crcIt_bit, val, bit_add, ← Nat.xor_assoc, crcBit_xor (n ^^^ b.toNat), crcBit_even]
/-- The bits of a byte, the lowest first. -/
def bitsOfByte (b : UInt8) : List Bool := (List.range 8).map fun i => b.toNat.testBit i
theorem val_bits (n : Nat) : ∀ k, val ((List.range k).map fun i => n.testBit i) = n % 2 ^ k := by
  intro k
  induction k generalizing n with
  | zero => simp [val, Nat.mod_one]
  | succ k ih =>
    rw [List.range_succ_eq_map, List.map_cons, List.map_map, val]
    have : ((fun i => n.testBit i) ∘ Nat.succ) = fun i => (n / 2).testBit i := by
      funext i; simp [Nat.testBit_succ]
    rw [this, ih (n / 2), show 2 ^ (k + 1) = 2 * 2 ^ k by rw [Nat.pow_succ, Nat.mul_comm], Nat.mod_mul, Nat.testBit_zero]
    have := Nat.mod_two_eq_zero_or_one n
    rcases this with h | h <;> simp [h]
theorem crcByte_ser (n : Nat) (b : UInt8) : crcByte n b = ser n (bitsOfByte b) := by
  rw [ser_val, bitsOfByte, val_bits, crcByte, List.length_map, List.length_range, Nat.mod_eq_of_lt b.toNat_lt]
def bitsAll (l : List UInt8) : List Bool := l.flatMap bitsOfByte
theorem ser_append (n : Nat) (a b : List Bool) : ser n (a ++ b) = ser (ser n a) b := by simp [ser]
theorem crcAll_ser (l : List UInt8) : ∀ n, crcAll n l = ser n (bitsAll l) := by
  induction l with
  | nil => intro n; rfl
  | cons b l ih =>
    intro n
    show crcAll (crcByte n b) l = _
    rw [ih, crcByte_ser, ← ser_append]; rfl
theorem ser_zero (k : Nat) : ser 0 (List.replicate k false) = 0 := by
  have hv : val (List.replicate k false) = 0 := by
    induction k with
    | zero => rfl
    | succ k ih => rw [List.replicate_succ, val, ih]; rfl
  rw [ser_val, hv, Nat.xor_zero, crcIt_zero]
theorem ser_zeros_ne (k n : Nat) (h : n < 2 ^ 32) (h0 : n ≠ 0) : ser n (List.replicate k false) ≠ 0 := by
  have hv : val (List.replicate k false) = 0 := by
    induction k with
    | zero => rfl
    | succ k ih => rw [List.replicate_succ, val, ih]; rfl
  rw [ser_val, hv, Nat.xor_zero]
  exact crcIt_ne _ _ h h0
theorem val_ne (l : List Bool) (h : true ∈ l) : val l ≠ 0 := by
  induction l with
  | nil => cases h
  | cons b l ih =>
    rw [val]
    rcases List.mem_cons.1 h with h | h
    · rw [← h]; simp
    · have := ih h; omega
/-- The differences of two texts, bit by bit. -/
def diff (a b : List Bool) : List Bool := List.zipWith Bool.xor a b
theorem toNat_xor (a b : Bool) : (Bool.xor a b).toNat = a.toNat ^^^ b.toNat := by cases a <;> cases b <;> rfl
theorem ser_diff (a : List Bool) : ∀ (b : List Bool) (n m : Nat), a.length = b.length → ser (n ^^^ m) (diff a b) = ser n a ^^^ ser m b := by
  induction a with
  | nil => intro b n m h; cases b with
    | nil => rfl
    | cons => simp at h
  | cons x a ih =>
    intro b n m h
    cases b with
    | nil => simp at h
    | cons y b =>
      simp only [List.length_cons, Nat.add_right_cancel_iff] at h
      show ser (crcBit ((n ^^^ m) ^^^ (Bool.xor x y).toNat)) (diff a b) = ser (crcBit (n ^^^ x.toNat)) a ^^^ ser (crcBit (m ^^^ y.toNat)) b
      rw [← ih b _ _ h, ← crcBit_xor, toNat_xor]
      congr 2
      rw [Nat.xor_assoc, Nat.xor_assoc, ← Nat.xor_assoc m, Nat.xor_comm m x.toNat, Nat.xor_assoc]
/-- A burst of at most 32 bits, one of them turned, turns what comes out. -/
theorem burst_ne (p k q : Nat) (m : List Bool) (hm : m.length = k) (hk : k ≤ 32) (ht : true ∈ m) : ser 0 (List.replicate p false ++ m ++ List.replicate q false) ≠ 0 := by
  rw [ser_append, ser_append, ser_zero, ser_val m, Nat.zero_xor]
  have hlt : val m < 2 ^ 32 := Nat.lt_of_lt_of_le (val_lt m) (Nat.pow_le_pow_right (by decide) (by omega))
  exact ser_zeros_ne _ _ (crcIt_lt _ _ hlt) (crcIt_ne _ _ hlt (val_ne m ht))
end Go.Proofs.YtamcclcbmenjdaaGreatDoor.Pl
namespace Go.Proofs.YtamcclcbmenjdaaGreatDoor

theorem val_append (a b : List Bool) : Pl.val (a ++ b) = Pl.val a + 2 ^ a.length * Pl.val b := by
  induction a with
  | nil => simp [Pl.val]
  | cons x a ih =>
    have e : 2 * (2 ^ a.length * Pl.val b) = 2 ^ a.length * 2 * Pl.val b := by rw [Nat.mul_comm (2 ^ a.length) 2, Nat.mul_assoc]
    rw [List.cons_append, Pl.val, ih, Pl.val, List.length_cons, Nat.pow_succ, Nat.mul_add, e]; omega
theorem val_byte (b : UInt8) : Pl.val (Pl.bitsOfByte b) = b.toNat := by
  rw [Pl.bitsOfByte, Pl.val_bits, Nat.mod_eq_of_lt b.toNat_lt]
theorem bitsOfByte_len (b : UInt8) : (Pl.bitsOfByte b).length = 8 := by simp [Pl.bitsOfByte]
theorem val_le32 (n : Nat) (h : n < 2 ^ 32) : Pl.val (Pl.bitsAll (le32 n)) = n ∧ (Pl.bitsAll (le32 n)).length = 32 := by
  have e : Pl.bitsAll (le32 n) = Pl.bitsOfByte (UInt8.ofNat (n % 256)) ++ (Pl.bitsOfByte (UInt8.ofNat (n / 256 % 256)) ++ (Pl.bitsOfByte (UInt8.ofNat (n / 65536 % 256)) ++ Pl.bitsOfByte (UInt8.ofNat (n / 16777216 % 256)))) := by
    simp [Pl.bitsAll, le32]
  rw [e]
  constructor
  · rw [val_append, val_append, val_append, val_byte, val_byte, val_byte, val_byte, bitsOfByte_len, bitsOfByte_len, bitsOfByte_len, ofNat_toNat _ (by omega), ofNat_toNat _ (by omega), ofNat_toNat _ (by omega), ofNat_toNat _ (by omega)]
    omega
  · simp [bitsOfByte_len]
/-- A text that bears its sum comes to one and the same. -/
theorem residue {l : List UInt8} (h : Opens l) : Pl.ser 4294967295 (Pl.bitsAll l) = Pl.crcIt 32 4294967295 := by
  have e : l = l.take (l.length - 4) ++ le32 (Pl.crc (l.take (l.length - 4))) := by
    have := (List.take_append_drop (l.length - 4) l).symm
    rw [h.sum] at this; exact this
  generalize l.take (l.length - 4) = g at *
  have hlt := Pl.crc_lt g
  have hs := Pl.crcAll_lt g 4294967295 (by decide)
  obtain ⟨hv, hl⟩ := val_le32 (Pl.crc g) hlt
  rw [← Pl.crcAll_ser, e]
  have hap : Pl.crcAll 4294967295 (g ++ le32 (Pl.crc g)) = Pl.crcAll (Pl.crcAll 4294967295 g) (le32 (Pl.crc g)) := by simp [Pl.crcAll]
  have hx : Pl.crcAll 4294967295 g ^^^ Pl.crc g = 4294967295 := by
    show Pl.crcAll 4294967295 g ^^^ (Pl.crcAll 4294967295 g ^^^ 4294967295) = 4294967295
    rw [← Nat.xor_assoc, Nat.xor_self, Nat.zero_xor]
  rw [hap, Pl.crcAll_ser (le32 (Pl.crc g)), Pl.ser_val, hl, hv, hx]
/-- The bit number p, from the first byte's lowest on. -/
def bitF (l : List UInt8) (p : Nat) : Bool := (l.getD (p / 8) 0).toNat.testBit (p % 8)
theorem range8 (n : Nat) (f : Nat → Bool) : (List.range (8 * (n + 1))).map f = (List.range 8).map f ++ (List.range (8 * n)).map fun p => f (8 + p) := by
  rw [show 8 * (n + 1) = 8 + 8 * n by omega, List.range_add, List.map_append, List.map_map]; rfl
theorem bitsAll_eq (l : List UInt8) : Pl.bitsAll l = (List.range (8 * l.length)).map (bitF l) := by
  induction l with
  | nil => rfl
  | cons b l ih =>
    rw [List.length_cons, range8]
    show Pl.bitsOfByte b ++ Pl.bitsAll l = _
    have e1 : Pl.bitsOfByte b = (List.range 8).map (bitF (b :: l)) := by
      unfold Pl.bitsOfByte
      refine List.map_congr_left fun i hi => ?_
      have := List.mem_range.1 hi
      unfold bitF
      rw [Nat.div_eq_of_lt this, Nat.mod_eq_of_lt this]; rfl
    have e2 : (List.range (8 * l.length)).map (bitF l) = (List.range (8 * l.length)).map fun p => bitF (b :: l) (8 + p) := by
      refine List.map_congr_left fun i _ => ?_
      unfold bitF
      rw [show (8 + i) / 8 = i / 8 + 1 by omega, show (8 + i) % 8 = i % 8 by omega]; rfl
    rw [ih, e1, e2]
/-- Bits turned, one after the other. -/
def turnTo (l : List UInt8) (at' : Nat) (m : Nat → Bool) : Nat → List UInt8
  | 0 => l
  | k + 1 => if m k = true ∧ (at' + k) / 8 < l.length then (turnTo l at' m k).set ((at' + k) / 8) (((turnTo l at' m k).getD ((at' + k) / 8) 0) ^^^ UInt8.ofNat (2 ^ ((at' + k) % 8))) else turnTo l at' m k
theorem turnTo_length (l : List UInt8) (at' : Nat) (m : Nat → Bool) (k : Nat) : (turnTo l at' m k).length = l.length := by
  induction k with
  | zero => rfl
  | succ k ih => rw [turnTo]; split <;> simp [ih]
theorem bit_pow (j q : Nat) (hj : j < 8) : (UInt8.ofNat (2 ^ j)).toNat.testBit q = decide (j = q) := by
  have e : (UInt8.ofNat (2 ^ j)).toNat = 2 ^ j := ofNat_toNat _ (Nat.lt_of_lt_of_le (Nat.pow_lt_pow_right (by decide) hj) (by decide))
  rw [e, Nat.testBit_two_pow]
theorem turnTo_bit (l : List UInt8) (at' : Nat) (m : Nat → Bool) (k p : Nat) (hp : p < 8 * l.length) : bitF (turnTo l at' m k) p = Bool.xor (bitF l p) (decide (at' ≤ p ∧ p < at' + k) && m (p - at')) := by
  induction k with
  | zero =>
    have : decide (at' ≤ p ∧ p < at' + 0) = false := decide_eq_false (by omega)
    rw [this]; simp [turnTo]
  | succ k ih =>
    have hl := turnTo_length l at' m k
    rw [turnTo]
    by_cases hc : m k = true ∧ (at' + k) / 8 < l.length
    · rw [if_pos hc]
      by_cases he : p / 8 = (at' + k) / 8
      · have e1 : bitF ((turnTo l at' m k).set ((at' + k) / 8) (((turnTo l at' m k).getD ((at' + k) / 8) 0) ^^^ UInt8.ofNat (2 ^ ((at' + k) % 8)))) p = Bool.xor (bitF (turnTo l at' m k) p) (decide ((at' + k) % 8 = p % 8)) := by
          unfold bitF
          rw [he, List.getD_eq_getElem?_getD, List.getElem?_set, if_pos rfl, if_pos (by omega)]
          simp only [Option.getD_some]
          rw [UInt8.toNat_xor, Nat.testBit_xor, bit_pow _ _ (Nat.mod_lt _ (by decide))]
        rw [e1, ih]
        by_cases hq : p = at' + k
        · subst hq
          have a1 : decide (at' ≤ at' + k ∧ at' + k < at' + k) = false := by simp
          have a2 : decide (at' ≤ at' + k ∧ at' + k < at' + (k + 1)) = true := decide_eq_true (by omega)
          rw [a1, a2, show at' + k - at' = k by omega, hc.1]; simp
        · have a1 : decide ((at' + k) % 8 = p % 8) = false := by simp; omega
          have a2 : decide (at' ≤ p ∧ p < at' + (k + 1)) = decide (at' ≤ p ∧ p < at' + k) := by
            rw [decide_eq_decide]; omega
          rw [a1, a2]; simp
      · have e1 : bitF ((turnTo l at' m k).set ((at' + k) / 8) (((turnTo l at' m k).getD ((at' + k) / 8) 0) ^^^ UInt8.ofNat (2 ^ ((at' + k) % 8)))) p = bitF (turnTo l at' m k) p := by
          unfold bitF
          simp only [List.getD_eq_getElem?_getD]
          rw [List.getElem?_set, if_neg (fun e => he e.symm)]
        have a2 : decide (at' ≤ p ∧ p < at' + (k + 1)) = decide (at' ≤ p ∧ p < at' + k) := by
          rw [decide_eq_decide]; omega
        rw [e1, ih, a2]
    · rw [if_neg hc, ih]
      by_cases hq : p = at' + k
      · subst hq
        have hmk : m k = false := by
          cases h : m k with
          | false => rfl
          | true => exact absurd ⟨h, by omega⟩ hc
        rw [show at' + k - at' = k by omega, hmk]; simp
      · have a2 : decide (at' ≤ p ∧ p < at' + (k + 1)) = decide (at' ≤ p ∧ p < at' + k) := by
          rw [decide_eq_decide]; omega
        rw [a2]
theorem bits_inj {a b : List UInt8} (hl : a.length = b.length) (h : ∀ p, p < 8 * a.length → bitF a p = bitF b p) : a = b := by
  apply List.ext_getElem hl
  intro i h1 h2
  apply UInt8.toNat_inj.1
  apply Nat.eq_of_testBit_eq
  intro j
  by_cases hj : j < 8
  · have := h (8 * i + j) (by omega)
    unfold bitF at this
    rw [show (8 * i + j) / 8 = i by omega, show (8 * i + j) % 8 = j by omega, List.getD_eq_getElem?_getD, List.getD_eq_getElem?_getD, List.getElem?_eq_getElem h1, List.getElem?_eq_getElem h2] at this
    exact this
  · have hp : 2 ^ 8 ≤ 2 ^ j := Nat.pow_le_pow_right (by decide) (by omega)
    have q1 := a[i].toNat_lt
    have q2 := b[i].toNat_lt
    rw [Nat.testBit_lt_two_pow (by omega), Nat.testBit_lt_two_pow (by omega)]
/-- Of two texts that differ within 32 bits that follow one another one at most bears its sum. -/
theorem burst_tells (l : List UInt8) (at' : Nat) (m : Nat → Bool) (h1 : Opens l) (h2 : Opens (turnTo l at' m 32)) : turnTo l at' m 32 = l := by
  have hlen := turnTo_length l at' m 32
  have r1 := residue h1
  have r2 := residue h2
  have hd := Pl.ser_diff (Pl.bitsAll l) (Pl.bitsAll (turnTo l at' m 32)) 4294967295 4294967295 (by rw [bitsAll_eq, bitsAll_eq, hlen]; simp)
  rw [r1, r2, Nat.xor_self, Nat.xor_self] at hd
  have hD : Pl.diff (Pl.bitsAll l) (Pl.bitsAll (turnTo l at' m 32)) = (List.range (8 * l.length)).map fun p => decide (at' ≤ p ∧ p < at' + 32) && m (p - at') := by
    rw [bitsAll_eq, bitsAll_eq, hlen, Pl.diff, List.zipWith_map, List.zipWith_self]
    refine List.map_congr_left fun p hp => ?_
    rw [turnTo_bit l at' m 32 p (List.mem_range.1 hp)]
    cases bitF l p <;> simp
  by_cases hne : turnTo l at' m 32 = l
  · exact hne
  · exfalso
    have hex : ∃ p, p < 8 * l.length ∧ at' ≤ p ∧ p < at' + 32 ∧ m (p - at') = true := by
      by_cases hx : ∃ p, p < 8 * l.length ∧ at' ≤ p ∧ p < at' + 32 ∧ m (p - at') = true
      · exact hx
      · refine absurd (bits_inj hlen fun p hp => ?_) hne
        rw [turnTo_bit l at' m 32 p (by omega)]
        by_cases hb : at' ≤ p ∧ p < at' + 32
        · have : m (p - at') = false := by
            cases h : m (p - at') with
            | false => rfl
            | true => exact absurd ⟨p, by omega, hb.1, hb.2, h⟩ hx
          rw [this]; simp
        · rw [decide_eq_false hb]; simp
    obtain ⟨p, hp, ha, hb, hm⟩ := hex
    rw [hD] at hd
    generalize hDg : ((List.range (8 * l.length)).map fun p => decide (at' ≤ p ∧ p < at' + 32) && m (p - at')) = D at *
    have hDl : D.length = 8 * l.length := by rw [← hDg]; simp
    have hDget : ∀ (i : Nat) (h : i < D.length), D[i] = (decide (at' ≤ i ∧ i < at' + 32) && m (i - at')) := fun i h => by
      subst hDg; simp
    have hsplit : D = List.replicate at' false ++ (D.drop at').take 32 ++ List.replicate (D.length - (at' + 32)) false := by
      have s1 : D = D.take at' ++ ((D.drop at').take 32 ++ (D.drop at').drop 32) := by rw [List.take_append_drop, List.take_append_drop]
      have t1 : D.take at' = List.replicate at' false := by
        rw [List.eq_replicate_iff]
        refine ⟨by rw [List.length_take]; omega, fun x hx => ?_⟩
        obtain ⟨i, hi, e⟩ := List.mem_iff_getElem.1 hx
        rw [List.length_take] at hi
        rw [List.getElem_take, hDget i (by omega)] at e
        rw [← e, decide_eq_false (by omega)]; simp
      have t3 : (D.drop at').drop 32 = List.replicate (D.length - (at' + 32)) false := by
        rw [List.eq_replicate_iff]
        refine ⟨by rw [List.length_drop, List.length_drop]; omega, fun x hx => ?_⟩
        obtain ⟨i, hi, e⟩ := List.mem_iff_getElem.1 hx
        rw [List.length_drop, List.length_drop] at hi
        rw [List.getElem_drop, List.getElem_drop, hDget _ (by omega)] at e
        rw [← e, decide_eq_false (by omega)]; simp
      rw [t1, t3, ← List.append_assoc] at s1
      exact s1
    rw [hsplit] at hd
    refine Pl.burst_ne at' _ _ ((D.drop at').take 32) rfl (by rw [List.length_take]; omega) ?_ hd
    refine List.mem_iff_getElem.2 ⟨p - at', by rw [List.length_take, List.length_drop]; omega, ?_⟩
    rw [List.getElem_take, List.getElem_drop, hDget _ (by omega), show at' + (p - at') = p by omega, hm, decide_eq_true ⟨ha, hb⟩]; rfl
end Go.Proofs.YtamcclcbmenjdaaGreatDoor

/- Bytes in memory of which bits are turned (Turned's first half, for a seat without choirkeep.turned). -/
namespace Go.Proofs.YtamcclcbmenjdaaGreatDoor
open Go.RowKit Go.Lib

/-- Bytes in block g, free to be written. -/
structure TB (w : World) (g : Nat) (l : List UInt8) : Prop where
  cell : ∀ j, j < l.length → w.cell? ⟨g, j, none⟩ = some (.int .u8 ((l.getD j 0).toNat : Int))
  fr : ∀ j, j < l.length → w.frozen? ⟨g, j, none⟩ = false
theorem TB.set {w : World} {g : Nat} {l : List UInt8} (h : TB w g l) (i : Nat) (hi : i < l.length) (x : UInt8) : TB (w.setCell ⟨g, i, none⟩ (.int .u8 (x.toNat : Int))) g (l.set i x) := by
  refine ⟨fun j hj => ?_, fun j hj => ?_⟩
  · rw [List.length_set] at hj
    by_cases e : j = i
    · subst e
      rw [World.cell?_setCell_same _ _ _ (h.cell j hj), List.getD_eq_getElem?_getD, List.getElem?_set, if_pos rfl, if_pos hj]; rfl
    · rw [World.cell?_setCell_other _ _ _ _ (fun y => e (congrArg Addr.off y).symm), h.cell j hj, List.getD_eq_getElem?_getD, List.getD_eq_getElem?_getD, List.getElem?_set, if_neg (fun y => e y.symm)]
  · rw [List.length_set] at hj
    rw [World.frozen?_setCell]; exact h.fr j hj
/-- Bit k of a mask. -/
def mbit (mask : Int) (k : Nat) : Bool := decide (mask / 2 ^ k % 2 = 1)
theorem and_one (n : Int) : Go.bits .and .i64 n 1 = n % 2 := by
  show IntKind.i64.wrap ((BitVec.ofInt 64 n &&& BitVec.ofInt 64 1).toNat : Int) = n % 2
  have e1 : (BitVec.ofInt 64 1).toNat = 1 := by decide
  rw [BitVec.toNat_and, e1, Nat.and_one_is_mod, BitVec.toNat_ofInt, IntKind.wrap_i64]
  omega

theorem bits_xor_u8 (a b : Nat) (ha : a < 256) (hb : b < 256) : Go.bits .xor .u8 (a : Int) (b : Int) = ((a ^^^ b : Nat) : Int) := by
  have hx : a ^^^ b < 2 ^ 8 := Nat.xor_lt_two_pow (by omega) (by omega)
  have h1 : (BitVec.ofInt 8 (a : Int)).toNat = a := by
    rw [BitVec.ofInt_natCast, BitVec.toNat_ofNat]; exact Nat.mod_eq_of_lt (by omega)
  have h2 : (BitVec.ofInt 8 (b : Int)).toNat = b := by
    rw [BitVec.ofInt_natCast, BitVec.toNat_ofNat]; exact Nat.mod_eq_of_lt (by omega)
  show IntKind.u8.wrap ((BitVec.ofInt 8 (a : Int) ^^^ BitVec.ofInt 8 (b : Int)).toNat : Int) = _
  rw [BitVec.toNat_xor, h1, h2, IntKind.wrap_u8]
  omega
theorem xor_pow (o : UInt8) (j : Nat) (hj : j < 8) : Go.bits .xor .u8 (o.toNat : Int) (2 ^ j % 256) = ((o ^^^ UInt8.ofNat (2 ^ j)).toNat : Int) := by
  have hp : 2 ^ j < 256 := Nat.lt_of_lt_of_le (Nat.pow_lt_pow_right (by decide) hj) (by decide)
  have e : ((2 : Int) ^ j % 256) = ((2 ^ j : Nat) : Int) := by
    rw [show ((2 : Int) ^ j) = ((2 ^ j : Nat) : Int) by simp]
    exact Int.emod_eq_of_lt (Int.natCast_nonneg _) (Int.ofNat_lt.2 hp)
  rw [e, bits_xor_u8 _ _ o.toNat_lt hp, UInt8.toNat_xor, ofNat_toNat _ hp]
theorem TB.drew {w : World} {g : Nat} {l : List UInt8} (h : TB w g l) : TB w.drew g l := ⟨h.cell, h.fr⟩
end Go.Proofs.YtamcclcbmenjdaaGreatDoor

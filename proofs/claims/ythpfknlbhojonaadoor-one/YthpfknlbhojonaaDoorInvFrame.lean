/- What stands around a payload: pure. -/
import Derived.Test.YthpfknlbhojonaaDoorInvNum
namespace Go.Proofs.YthpfknlbhojonaaDoor

/-- The number that the bytes from the third on make, the highest first. -/
def pszTo (l : List UInt8) : Nat → Nat
  | 0 => 0
  | k + 1 => 256 * pszTo l k + (l.getD (3 + k) 0).toNat
theorem pszTo_lt (l : List UInt8) (k : Nat) : pszTo l k < 256 ^ k := by
  induction k with
  | zero => simp [pszTo]
  | succ k ih => rw [pszTo, Nat.pow_succ]; have := (l.getD (3 + k) 0).toNat_lt; omega
/-- What stands around the payload is right. -/
structure Opens (l : List UInt8) : Prop where
  long : 11 ≤ l.length
  mark : l.take 3 = [67, 72, 1]
  size : pszTo l 4 = l.length - 11
  sum : l.drop (l.length - 4) = le32 (Pl.crc (l.take (l.length - 4)))
def inner (l : List UInt8) : List UInt8 := (l.take (l.length - 4)).drop 7
theorem be32_of (a b c d : UInt8) (n : Nat) (h : n = 256 * (256 * (256 * a.toNat + b.toNat) + c.toNat) + d.toNat) : be32 n = [a, b, c, d] := by
  have ha := a.toNat_lt
  have hb := b.toNat_lt
  have hc := c.toNat_lt
  have hd := d.toNat_lt
  have e1 : n / 16777216 % 256 = a.toNat := by omega
  have e2 : n / 65536 % 256 = b.toNat := by omega
  have e3 : n / 256 % 256 = c.toNat := by omega
  have e4 : n % 256 = d.toNat := by omega
  unfold be32
  rw [e1, e2, e3, e4]
  simp
theorem frame_of {l : List UInt8} (h : Opens l) : l = frameOf (inner l) ∧ (inner l).length = l.length - 11 := by
  obtain ⟨h1, h2, h3, h4⟩ := h
  have hl : (inner l).length = l.length - 11 := by unfold inner; rw [List.length_drop, List.length_take]; omega
  refine ⟨?_, hl⟩
  have hh : l.take (l.length - 4) = headOf (inner l) := by
    unfold headOf
    rw [hl, ← h3]
    have e : ∀ k, k < 7 → (l.take (l.length - 4))[k]? = l[k]? := fun k hk => by rw [List.getElem?_take, if_pos (by omega)]
    have hb : be32 (pszTo l 4) = [l.getD 3 0, l.getD 4 0, l.getD 5 0, l.getD 6 0] := be32_of _ _ _ _ _ (by simp only [pszTo, Nat.mul_zero, Nat.zero_add, Nat.add_zero])
    rw [hb]
    have hsplit : l.take (l.length - 4) = (l.take (l.length - 4)).take 7 ++ inner l := (List.take_append_drop 7 _).symm
    have h7 : (l.take (l.length - 4)).take 7 = [67, 72, 1] ++ [l.getD 3 0, l.getD 4 0, l.getD 5 0, l.getD 6 0] := by
      rw [List.take_take, show min 7 (l.length - 4) = 7 by omega]
      have : l.take 7 = l.take 3 ++ (l.drop 3).take 4 := by
        rw [show (7 : Nat) = 3 + 4 by rfl, List.take_add]
      rw [this, h2]
      congr 1
      apply List.ext_getElem?
      intro j
      rw [List.getElem?_take]
      by_cases hj : j < 4
      · rw [if_pos hj, List.getElem?_drop]
        have hlt : 3 + j < l.length := by omega
        have e2 : l[3 + j]? = some (l.getD (3 + j) 0) := by
          rw [List.getD_eq_getElem?_getD, List.getElem?_eq_getElem hlt]; rfl
        rw [e2]
        have e3 : j = 0 ∨ j = 1 ∨ j = 2 ∨ j = 3 := by omega
        rcases e3 with rfl | rfl | rfl | rfl <;> rfl
      · rw [if_neg hj, List.getElem?_eq_none (by simp; omega)]
    rw [hsplit, h7]
  have := (List.take_append_drop (l.length - 4) l).symm
  rw [h4] at this
  rw [hh] at this
  exact this
theorem frameOf_length (p : List UInt8) : (frameOf p).length = p.length + 11 := by
  unfold frameOf headOf; simp [be32, le32]
theorem headOf_length (p : List UInt8) : (headOf p).length = p.length + 7 := by
  unfold headOf; simp [be32]
theorem opens_of (p : List UInt8) (hp : p.length < 4294967296) : Opens (frameOf p) ∧ inner (frameOf p) = p := by
  have hl := frameOf_length p
  have hh := headOf_length p
  have ht : (frameOf p).take ((frameOf p).length - 4) = headOf p := by
    rw [hl, show p.length + 11 - 4 = (headOf p).length by omega]
    exact List.take_left
  refine ⟨⟨by omega, rfl, ?_, ?_⟩, ?_⟩
  · rw [hl]
    show 256 * (256 * (256 * (256 * 0 + (UInt8.ofNat (p.length / 16777216 % 256)).toNat) + (UInt8.ofNat (p.length / 65536 % 256)).toNat) + (UInt8.ofNat (p.length / 256 % 256)).toNat) + (UInt8.ofNat (p.length % 256)).toNat = _
    rw [ofNat_toNat _ (by omega), ofNat_toNat _ (by omega), ofNat_toNat _ (by omega), ofNat_toNat _ (by omega)]
    omega
  · rw [ht, hl, show p.length + 11 - 4 = (headOf p).length by omega]
    exact List.drop_left
  · unfold inner
    rw [ht]
    have e7 : ([67, 72, 1] ++ be32 p.length).length = 7 := rfl
    have := List.drop_left (l₁ := [67, 72, 1] ++ be32 p.length) (l₂ := p)
    rw [e7] at this
    exact this
end Go.Proofs.YthpfknlbhojonaaDoor

/- Bits that are packed are read again: pure. -/
import Derived.Test.YthpfknlbhojonaaDoorUnp
namespace Go.Proofs.YthpfknlbhojonaaDoor

theorem byteOf_bit (f : Nat → Bool) (m : Nat) (hm : m < 8) : Pl.byteOf f / 2 ^ (7 - m) % 2 = (f m).toNat := by
  have h : ∀ b : Bool, b.toNat ≤ 1 := fun b => by cases b <;> decide
  have := h (f 0); have := h (f 1); have := h (f 2); have := h (f 3); have := h (f 4); have := h (f 5); have := h (f 6); have := h (f 7)
  have e : m = 0 ∨ m = 1 ∨ m = 2 ∨ m = 3 ∨ m = 4 ∨ m = 5 ∨ m = 6 ∨ m = 7 := by omega
  unfold Pl.byteOf
  rcases e with rfl | rfl | rfl | rfl | rfl | rfl | rfl | rfl <;> simp <;> omega
theorem bitAt_pack (l : List Bool) (i : Nat) (hi : i < l.length) : bitAt (Pl.pack l) i = (l.getD i false).toNat := by
  unfold bitAt
  have hj : i / 8 < (l.length + 7) / 8 := by omega
  have e : (Pl.pack l).getD (i / 8) 0 = Pl.byteAt l (i / 8) := by
    rw [List.getD_eq_getElem?_getD, Pl.pack, List.getElem?_map, List.getElem?_range hj]; rfl
  rw [e, Pl.byteAt_toNat, byteOf_bit _ _ (Nat.mod_lt _ (by decide))]
  show (l.getD (8 * (i / 8) + i % 8) false).toNat = _
  rw [Nat.div_add_mod]
/-- The number that bits make, the highest first. -/
def bval : List Bool → Nat → Nat
  | _, 0 => 0
  | l, k + 1 => 2 * bval l k + (l.getD k false).toNat
theorem valTo_pack (l : List Bool) (p k : Nat) (h : p + k ≤ l.length) : valTo (Pl.pack l) p k = bval (l.drop p) k := by
  induction k with
  | zero => rfl
  | succ k ih =>
    rw [valTo, bval, ih (by omega), bitAt_pack l _ (by omega)]
    congr 2
    simp only [List.getD_eq_getElem?_getD, List.getElem?_drop]
theorem bval_congr (l m : List Bool) (k : Nat) (h : ∀ i, i < k → l.getD i false = m.getD i false) : bval l k = bval m k := by
  induction k with
  | zero => rfl
  | succ k ih => rw [bval, bval, ih fun i hi => h i (by omega), h k (by omega)]
theorem bval_app (l m : List Bool) : bval (l ++ m) l.length = bval l l.length :=
  bval_congr _ _ _ fun i hi => by simp only [List.getD_eq_getElem?_getD]; rw [List.getElem?_append_left hi]
theorem bval_cons (b : Bool) (l : List Bool) (k : Nat) : bval (b :: l) (k + 1) = b.toNat * 2 ^ k + bval l k := by
  induction k with
  | zero => simp [bval]
  | succ k ih =>
    rw [bval, ih, bval, Nat.pow_succ]
    simp only [List.getD_eq_getElem?_getD, List.getElem?_cons_succ]
    cases b <;> simp <;> omega
theorem bval_bitsOf (n w : Nat) : bval (Pl.bitsOf n w) w = n % 2 ^ w := by
  induction w with
  | zero => simp [bval, Nat.mod_one]
  | succ w ih =>
    rw [Pl.bitsOf, bval_cons, ih, Nat.pow_succ, Nat.mod_mul]
    have := Nat.mod_two_eq_zero_or_one (n / 2 ^ w)
    rcases this with h | h <;> simp [h] <;> omega

/-- A chunk's bytes. -/
def packed (l : List Bool) : ByteArray := ⟨(Pl.pack l).toArray⟩
theorem packed_size (l : List Bool) : (packed l).size = (l.length + 7) / 8 := by
  show (Pl.pack l).toArray.size = _
  simp [Pl.pack_length]
theorem tk_packed (A C : List Bool) (n w st : Nat) : tk (packed (A ++ (Pl.bitsOf n w ++ C))) A.length st w = (n % 2 ^ w, A.length + w, st) := by
  have hl : (A ++ (Pl.bitsOf n w ++ C)).length = A.length + w + C.length := by simp [Pl.bitsOf_length]; omega
  unfold tk
  rw [packed_size, if_neg (by omega)]
  have : valTo (packed (A ++ (Pl.bitsOf n w ++ C))).data.toList A.length w = n % 2 ^ w := by
    show valTo (Pl.pack (A ++ (Pl.bitsOf n w ++ C))).toArray.toList A.length w = _
    rw [List.toList_toArray, valTo_pack _ _ _ (by omega), List.drop_left]
    have := bval_app (Pl.bitsOf n w) C
    rw [Pl.bitsOf_length] at this
    rw [this, bval_bitsOf]
  rw [this]
theorem tk_one (A C : List Bool) (b : Bool) (st : Nat) : tk (packed (A ++ b :: C)) A.length st 1 = (b.toNat, A.length + 1, st) := by
  have h := tk_packed A C b.toNat 1 st
  have e : Pl.bitsOf b.toNat 1 ++ C = b :: C := by cases b <;> rfl
  rw [e] at h
  rw [h]
  cases b <;> rfl
theorem mk_packed (v last st : Nat) (C : List Bool) (hv : v ≤ last) : ∀ A : List Bool, mk (packed (A ++ (markOf v last ++ C))) last A.length st = (v, A.length + (markOf v last).length, st) := by
  induction v generalizing last with
  | zero =>
    intro A
    cases last with
    | zero => simp [mk, markOf]
    | succ r =>
      have e : A ++ (markOf 0 (r + 1) ++ C) = A ++ false :: C := by simp [markOf]
      rw [e, mk, tk_one]
      simp [markOf]
  | succ v ih =>
    intro A
    cases last with
    | zero => omega
    | succ r =>
      have e : A ++ (markOf (v + 1) (r + 1) ++ C) = A ++ true :: (markOf v r ++ C) := by
        simp [markOf, List.replicate_succ]
      have e2 : A ++ true :: (markOf v r ++ C) = (A ++ [true]) ++ (markOf v r ++ C) := by simp
      rw [e, mk, tk_one, if_pos (by rfl)]
      have h := ih r (by omega) (A ++ [true])
      rw [← e2, show (A ++ [true]).length = A.length + 1 by simp] at h
      simp only [h]
      have e3 : (markOf (v + 1) (r + 1)).length = (markOf v r).length + 1 := by
        simp [markOf, List.replicate_succ]
      rw [e3]
      simp only [Prod.mk.injEq, true_and, and_true]
      omega
/-- A time that was told is read. -/
theorem way_width (e : Nat) : add64 e (stepShift (stepWay e)) % 2 ^ stepWidth (stepWay e) = add64 e (stepShift (stepWay e)) := by
  unfold add64
  by_cases h0 : stepFits e 0 = true
  · have : stepWay e = 0 := by unfold stepWay; rw [if_pos h0]
    rw [this]; unfold stepFits at h0; exact Nat.mod_eq_of_lt (of_decide_eq_true h0)
  by_cases h1 : stepFits e 1 = true
  · have : stepWay e = 1 := by unfold stepWay; rw [if_neg h0, if_pos h1]
    rw [this]; unfold stepFits at h1; exact Nat.mod_eq_of_lt (of_decide_eq_true h1)
  by_cases h2 : stepFits e 2 = true
  · have : stepWay e = 2 := by unfold stepWay; rw [if_neg h0, if_neg h1, if_pos h2]
    rw [this]; unfold stepFits at h2; exact Nat.mod_eq_of_lt (of_decide_eq_true h2)
  by_cases h3 : stepFits e 3 = true
  · have : stepWay e = 3 := by unfold stepWay; rw [if_neg h0, if_neg h1, if_neg h2, if_pos h3]
    rw [this]; unfold stepFits at h3; exact Nat.mod_eq_of_lt (of_decide_eq_true h3)
  · have : stepWay e = 4 := by unfold stepWay; rw [if_neg h0, if_neg h1, if_neg h2, if_neg h3]
    rw [this]
    show (e + 0) % 18446744073709551616 % 2 ^ 64 = (e + 0) % 18446744073709551616
    omega
theorem sub_add64 (e x : Nat) (he : e < 18446744073709551616) (hx : x < 18446744073709551616) : sub64 (add64 e x) x = e := by
  unfold sub64 add64; omega
theorem add_sub64 (a b : Nat) (ha : a < 18446744073709551616) (hb : b < 18446744073709551616) : add64 b (sub64 a b) = a := by
  unfold sub64 add64; omega
theorem stepShift_lt (k : Nat) : stepShift k < 18446744073709551616 := by unfold stepShift; split <;> omega
end Go.Proofs.YthpfknlbhojonaaDoor

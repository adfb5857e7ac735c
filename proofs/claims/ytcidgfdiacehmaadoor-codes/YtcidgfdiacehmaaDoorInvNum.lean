/- Bits, numbers and texts that are packed are read again; what stands around a payload: pure. -/
import Derived.Test.YtcidgfdiacehmaaDoorUnp
namespace Go.Proofs.YtcidgfdiacehmaaDoor

theorem byteOf_bit (f : Nat → Bool) (m : Nat) (hm : m < 8) : Pl.byteOf f / 2 ^ (7 - m) % 2 = (f m).toNat := by
  have h : ∀ b : Bool, b.toNat ≤ 1 := fun b => by cases b <;> decide
  have := h (f 0); have := h (f 1); have := h (f 2); have := h (f 3); have := h (f 4); have := h (f 5); have := h (f 6); have := h (f 7)
  have e : m = 0 ∨ m = 1 ∨ m = 2 ∨ m = 3 ∨ m = 4 ∨ m = 5 ∨ m = 6 ∨ m = 7 := by omega
  unfold Pl.byteOf
  rcases e with rfl | rfl | rfl | rfl | rfl | rfl | rfl | rfl <;> simp <;> omega
theorem bitAt_pack (l : List Bool) (i : Nat) (hi : i < l.length) : bitAt (Pl.pack l) i = (l.getD i false).toNat := by
  unfold bitAt
  have hj : i / 8 < (l.length + 7) / 8 := by omega
  have e : (Pl.pack l).getD (i / 8) 0 = Pl.byteAt l (i / 8) := by
    rw [List.getD_eq_getElem?_getD, Pl.pack, List.getElem?_map, List.getElem?_range hj]; rfl
  rw [e, Pl.byteAt_toNat, byteOf_bit _ _ (Nat.mod_lt _ (by decide))]
  show (l.getD (8 * (i / 8) + i % 8) false).toNat = _
  rw [Nat.div_add_mod]
/-- The number that bits make, the highest first. -/
def bval : List Bool → Nat → Nat
  | _, 0 => 0
  | l, k + 1 => 2 * bval l k + (l.getD k false).toNat
theorem valTo_pack (l : List Bool) (p k : Nat) (h : p + k ≤ l.length) : valTo (Pl.pack l) p k = bval (l.drop p) k := by
  induction k with
  | zero => rfl
  | succ k ih =>
    rw [valTo, bval, ih (by omega), bitAt_pack l _ (by omega)]
    congr 2
    simp only [List.getD_eq_getElem?_getD, List.getElem?_drop]
theorem bval_congr (l m : List Bool) (k : Nat) (h : ∀ i, i < k → l.getD i false = m.getD i false) : bval l k = bval m k := by
  induction k with
  | zero => rfl
  | succ k ih => rw [bval, bval, ih fun i hi => h i (by omega), h k (by omega)]
theorem bval_app (l m : List Bool) : bval (l ++ m) l.length = bval l l.length :=
  bval_congr _ _ _ fun i hi => by simp only [List.getD_eq_getElem?_getD]; rw [List.getElem?_append_left hi]
theorem bval_cons (b : Bool) (l : List Bool) (k : Nat) : bval (b :: l) (k + 1) = b.toNat * 2 ^ k + bval l k := by
  induction k with
  | zero => simp [bval]
  | succ k ih =>
    rw [bval, ih, bval, Nat.pow_succ]
    simp only [List.getD_eq_getElem?_getD, List.getElem?_cons_succ]
    cases b <;> simp <;> omega
theorem bval_bitsOf (n w : Nat) : bval (Pl.bitsOf n w) w = n % 2 ^ w := by
  induction w with
  | zero => simp [bval, Nat.mod_one]
  | succ w ih =>
    rw [Pl.bitsOf, bval_cons, ih, Nat.pow_succ, Nat.mod_mul]
    have := Nat.mod_two_eq_zero_or_one (n / 2 ^ w)
    rcases this with h | h <;> simp [h] <;> omega

/-- A chunk's bytes. -/
def packed (l : List Bool) : ByteArray := ⟨(Pl.pack l).toArray⟩
theorem packed_size (l : List Bool) : (packed l).size = (l.length + 7) / 8 := by
  show (Pl.pack l).toArray.size = _
  simp [Pl.pack_length]
theorem tk_packed (A C : List Bool) (n w st : Nat) : tk (packed (A ++ (Pl.bitsOf n w ++ C))) A.length st w = (n % 2 ^ w, A.length + w, st) := by
  have hl : (A ++ (Pl.bitsOf n w ++ C)).length = A.length + w + C.length := by simp [Pl.bitsOf_length]; omega
  unfold tk
  rw [packed_size, if_neg (by omega)]
  have : valTo (packed (A ++ (Pl.bitsOf n w ++ C))).data.toList A.length w = n % 2 ^ w := by
    show valTo (Pl.pack (A ++ (Pl.bitsOf n w ++ C))).toArray.toList A.length w = _
    rw [List.toList_toArray, valTo_pack _ _ _ (by omega), List.drop_left]
    have := bval_app (Pl.bitsOf n w) C
    rw [Pl.bitsOf_length] at this
    rw [this, bval_bitsOf]
  rw [this]
theorem tk_one (A C : List Bool) (b : Bool) (st : Nat) : tk (packed (A ++ b :: C)) A.length st 1 = (b.toNat, A.length + 1, st) := by
  have h := tk_packed A C b.toNat 1 st
  have e : Pl.bitsOf b.toNat 1 ++ C = b :: C := by cases b <;> rfl
  rw [e] at h
  rw [h]
  cases b <;> rfl
theorem mk_packed (v last st : Nat) (C : List Bool) (hv : v ≤ last) : ∀ A : List Bool, mk (packed (A ++ (markOf v last ++ C))) last A.length st = (v, A.length + (markOf v last).length, st) := by
  induction v generalizing last with
  | zero =>
    intro A
    cases last with
    | zero => simp [mk, markOf]
    | succ r =>
      have e : A ++ (markOf 0 (r + 1) ++ C) = A ++ false :: C := by simp [markOf]
      rw [e, mk, tk_one]
      simp [markOf]
  | succ v ih =>
    intro A
    cases last with
    | zero => omega
    | succ r =>
      have e : A ++ (markOf (v + 1) (r + 1) ++ C) = A ++ true :: (markOf v r ++ C) := by
        simp [markOf, List.replicate_succ]
      have e2 : A ++ true :: (markOf v r ++ C) = (A ++ [true]) ++ (markOf v r ++ C) := by simp
      rw [e, mk, tk_one, if_pos (by rfl)]
      have h := ih r (by omega) (A ++ [true])
      rw [← e2, show (A ++ [true]).length = A.length + 1 by simp] at h
      simp only [h]
      have e3 : (markOf (v + 1) (r + 1)).length = (markOf v r).length + 1 := by
        simp [markOf, List.replicate_succ]
      rw [e3]
      simp only [Prod.mk.injEq, true_and, and_true]
      omega
/-- A time that was told is read. -/
theorem way_width (e : Nat) : add64 e (stepShift (stepWay e)) % 2 ^ stepWidth (stepWay e) = add64 e (stepShift (stepWay e)) := by
  unfold add64
  by_cases h0 : stepFits e 0 = true
  · have : stepWay e = 0 := by unfold stepWay; rw [if_pos h0]
    rw [this]; unfold stepFits at h0; exact Nat.mod_eq_of_lt (of_decide_eq_true h0)
  by_cases h1 : stepFits e 1 = true
  · have : stepWay e = 1 := by unfold stepWay; rw [if_neg h0, if_pos h1]
    rw [this]; unfold stepFits at h1; exact Nat.mod_eq_of_lt (of_decide_eq_true h1)
  by_cases h2 : stepFits e 2 = true
  · have : stepWay e = 2 := by unfold stepWay; rw [if_neg h0, if_neg h1, if_pos h2]
    rw [this]; unfold stepFits at h2; exact Nat.mod_eq_of_lt (of_decide_eq_true h2)
  by_cases h3 : stepFits e 3 = true
  · have : stepWay e = 3 := by unfold stepWay; rw [if_neg h0, if_neg h1, if_neg h2, if_pos h3]
    rw [this]; unfold stepFits at h3; exact Nat.mod_eq_of_lt (of_decide_eq_true h3)
  · have : stepWay e = 4 := by unfold stepWay; rw [if_neg h0, if_neg h1, if_neg h2, if_neg h3]
    rw [this]
    show (e + 0) % 18446744073709551616 % 2 ^ 64 = (e + 0) % 18446744073709551616
    omega
theorem sub_add64 (e x : Nat) (he : e < 18446744073709551616) (hx : x < 18446744073709551616) : sub64 (add64 e x) x = e := by
  unfold sub64 add64; omega
theorem add_sub64 (a b : Nat) (ha : a < 18446744073709551616) (hb : b < 18446744073709551616) : add64 b (sub64 a b) = a := by
  unfold sub64 add64; omega
theorem stepShift_lt (k : Nat) : stepShift k < 18446744073709551616 := by unfold stepShift; split <;> omega
end Go.Proofs.YtcidgfdiacehmaaDoor
namespace Go.Proofs.YtcidgfdiacehmaaDoor

/-- Bytes as a string's value. -/
def BA (l : List UInt8) : ByteArray := ⟨l.toArray⟩
theorem BA_size (l : List UInt8) : (BA l).size = l.length := by show l.toArray.size = _; simp
theorem BA_list (l : List UInt8) : (BA l).data.toList = l := by show l.toArray.toList = _; simp
theorem BA_of (s : ByteArray) : BA s.data.toList = s := by cases s; simp [BA]
theorem BA_drop (a c : List UInt8) : (BA (a ++ c)).extract a.length (a ++ c).length = BA c := by
  apply ByteArray.ext
  rw [ByteArray.data_extract]
  simp [BA]
theorem BA_take (a c : List UInt8) : (BA (a ++ c)).extract 0 a.length = BA a := by
  apply ByteArray.ext
  rw [ByteArray.data_extract]
  simp [BA]

theorem getD_last (C : List UInt8) (b : UInt8) (rest : List UInt8) : ((b :: rest) ++ C).getD 0 0 = b := rfl
theorem ofNat_toNat (m : Nat) (h : m < 256) : (UInt8.ofNat m).toNat = m := by simp [UInt8.toNat_ofNat']; omega
theorem rdNum_varint (C : List UInt8) (f : Nat) : ∀ (m k F : Nat) (l : List UInt8) (most : Int), m < 2 ^ (7 * (f + 1)) → (∀ j, l.getD (k + j) 0 = (Pl.varintF f m ++ C).getD j 0) → (Pl.varintF f m).length ≤ F →
    ((numTo l k + m * 2 ^ (7 * k) : Nat) : Int) ≤ most → rdNum l most F k = some (numTo l k + m * 2 ^ (7 * k), k + (Pl.varintF f m).length) := by
  have hlast : ∀ (m k F : Nat) (l : List UInt8) (most : Int), m < 128 → l.getD k 0 = UInt8.ofNat m → 1 ≤ F → ((numTo l k + m * 2 ^ (7 * k) : Nat) : Int) ≤ most → rdNum l most F k = some (numTo l k + m * 2 ^ (7 * k), k + 1) := by
    intro m k F l most hm hl hF hmost
    obtain ⟨F', rfl⟩ : ∃ F', F = F' + 1 := ⟨F - 1, by omega⟩
    have hb : (l.getD k 0).toNat = m := by rw [hl, ofNat_toNat m (by omega)]
    have hn : numTo l (k + 1) = numTo l k + m * 2 ^ (7 * k) := by rw [numTo, hb, Nat.mod_eq_of_lt hm]
    rw [rdNum, hb, if_neg (by omega), hn, if_neg (by omega)]
  induction f with
  | zero =>
    intro m k F l most hm hl hF hmost
    have h0 := hl 0
    rw [Nat.add_zero] at h0
    exact hlast m k F l most (by omega) (by rw [h0]; rfl) (by simpa [Pl.varintF] using hF) hmost
  | succ f ih =>
    intro m k F l most hm hl hF hmost
    by_cases hs : m < 128
    · rw [Pl.varintF_small _ _ hs] at hl hF ⊢
      have h0 := hl 0
      rw [Nat.add_zero] at h0
      exact hlast m k F l most hs (by rw [h0]; rfl) (by simpa using hF) hmost
    · rw [Pl.varintF_big _ _ hs] at hl hF ⊢
      have h0 := hl 0
      rw [Nat.add_zero] at h0
      rw [List.length_cons] at hF
      obtain ⟨F', rfl⟩ : ∃ F', F = F' + 1 := ⟨F - 1, by omega⟩
      have hb : (l.getD k 0).toNat = m % 128 + 128 := by
        rw [h0]
        show (UInt8.ofNat (m % 128 + 128)).toNat = _
        exact ofNat_toNat _ (by omega)
      have hn : numTo l (k + 1) = numTo l k + m % 128 * 2 ^ (7 * k) := by rw [numTo, hb]; congr 2; omega
      have hp : 2 ^ (7 * (k + 1)) = 128 * 2 ^ (7 * k) := by rw [show 7 * (k + 1) = 7 * k + 7 by omega, Nat.pow_add]; omega
      have hsum : numTo l (k + 1) + m / 128 * 2 ^ (7 * (k + 1)) = numTo l k + m * 2 ^ (7 * k) := by
        rw [hn, hp, Nat.add_assoc]
        congr 1
        rw [← Nat.mul_assoc, ← Nat.add_mul]
        congr 1
        omega
      rw [rdNum, hb, if_pos (by omega)]
      have h := ih (m / 128) (k + 1) F' l most (by
        rw [show 7 * (f + 1 + 1) = 7 * (f + 1) + 7 by omega, Nat.pow_add] at hm; omega) (fun j => by
        have := hl (j + 1)
        rw [show k + (j + 1) = k + 1 + j by omega] at this
        rw [this]; rfl) (by omega) (by rw [hsum]; exact hmost)
      rw [h, hsum, List.length_cons]
      simp; omega
theorem varintF_len (f : Nat) : ∀ (n j : Nat), n < 2 ^ (7 * (j + 1)) → (Pl.varintF f n).length ≤ j + 1 := by
  induction f with
  | zero => intro n j _; simp [Pl.varintF]
  | succ f ih =>
    intro n j h
    by_cases hs : n < 128
    · rw [Pl.varintF_small _ _ hs]; simp
    · rw [Pl.varintF_big _ _ hs, List.length_cons]
      cases j with
      | zero => omega
      | succ j =>
        have := ih (n / 128) j (by rw [show 7 * (j + 1 + 1) = 7 * (j + 1) + 7 by omega, Nat.pow_add] at h; omega)
        omega
theorem rdNum_of (n : Nat) (C : List UInt8) (most : Int) (hn : n < 2 ^ 63) (hm : (n : Int) ≤ most) : rdNum (Pl.varint n ++ C) most (min (Pl.varint n ++ C).length 9) 0 = some (n, (Pl.varint n).length) := by
  have hl : (Pl.varint n).length ≤ 9 := varintF_len 9 n 8 hn
  have h := rdNum_varint C 9 n 0 (min (Pl.varint n ++ C).length 9) (Pl.varint n ++ C) most (by omega) (fun j => by rw [Nat.zero_add]; rfl) (by
    show (Pl.varint n).length ≤ _
    rw [List.length_append]; omega) (by simpa [numTo] using hm)
  rw [h]
  simp [numTo, Pl.varint]
theorem numR_of (n : Nat) (C : List UInt8) (most : Int) (st : Nat) (hn : n < 2 ^ 63) (hm : (n : Int) ≤ most) : numR (BA (Pl.varint n ++ C)) most st = (n, BA C, st) := by
  unfold numR
  rw [BA_list, BA_size, rdNum_of n C most hn hm]
  simp only
  rw [BA_drop]
theorem textR_of (x C : List UInt8) (most : Int) (st : Nat) (hn : x.length < 2 ^ 63) (hm : (x.length : Int) ≤ most) : textR (BA (Pl.varint x.length ++ (x ++ C))) most st = (BA x, BA C, st) := by
  unfold textR
  rw [BA_list, BA_size, rdNum_of _ _ most hn hm]
  simp only
  rw [BA_drop, BA_size, if_pos (by rw [List.length_append, List.length_append]; omega), BA_take, BA_drop]
end Go.Proofs.YtcidgfdiacehmaaDoor
namespace Go.Proofs.YtcidgfdiacehmaaDoor

/-- The number that the bytes from the third on make, the highest first. -/
def pszTo (l : List UInt8) : Nat → Nat
  | 0 => 0
  | k + 1 => 256 * pszTo l k + (l.getD (3 + k) 0).toNat
theorem pszTo_lt (l : List UInt8) (k : Nat) : pszTo l k < 256 ^ k := by
  induction k with
  | zero => simp [pszTo]
  | succ k ih => rw [pszTo, Nat.pow_succ]; have := (l.getD (3 + k) 0).toNat_lt; omega
/-- What stands around the payload is right. -/
structure Opens (l : List UInt8) : Prop where
  long : 11 ≤ l.length
  mark : l.take 3 = [67, 72, 1]
  size : pszTo l 4 = l.length - 11
  sum : l.drop (l.length - 4) = le32 (Pl.crc (l.take (l.length - 4)))
def inner (l : List UInt8) : List UInt8 := (l.take (l.length - 4)).drop 7
theorem be32_of (a b c d : UInt8) (n : Nat) (h : n = 256 * (256 * (256 * a.toNat + b.toNat) + c.toNat) + d.toNat) : be32 n = [a, b, c, d] := by
  have ha := a.toNat_lt
  have hb := b.toNat_lt
  have hc := c.toNat_lt
  have hd := d.toNat_lt
  have e1 : n / 16777216 % 256 = a.toNat := by omega
  have e2 : n / 65536 % 256 = b.toNat := by omega
  have e3 : n / 256 % 256 = c.toNat := by omega
  have e4 : n % 256 = d.toNat := by omega
  unfold be32
  rw [e1, e2, e3, e4]
  simp
theorem frame_of {l : List UInt8} (h : Opens l) : l = frameOf (inner l) ∧ (inner l).length = l.length - 11 := by
  obtain ⟨h1, h2, h3, h4⟩ := h
  have hl : (inner l).length = l.length - 11 := by unfold inner; rw [List.length_drop, List.length_take]; omega
  refine ⟨?_, hl⟩
  have hh : l.take (l.length - 4) = headOf (inner l) := by
    unfold headOf
    rw [hl, ← h3]
    have e : ∀ k, k < 7 → (l.take (l.length - 4))[k]? = l[k]? := fun k hk => by rw [List.getElem?_take, if_pos (by omega)]
    have hb : be32 (pszTo l 4) = [l.getD 3 0, l.getD 4 0, l.getD 5 0, l.getD 6 0] := be32_of _ _ _ _ _ (by simp only [pszTo, Nat.mul_zero, Nat.zero_add, Nat.add_zero])
    rw [hb]
    have hsplit : l.take (l.length - 4) = (l.take (l.length - 4)).take 7 ++ inner l := (List.take_append_drop 7 _).symm
    have h7 : (l.take (l.length - 4)).take 7 = [67, 72, 1] ++ [l.getD 3 0, l.getD 4 0, l.getD 5 0, l.getD 6 0] := by
      rw [List.take_take, show min 7 (l.length - 4) = 7 by omega]
      have : l.take 7 = l.take 3 ++ (l.drop 3).take 4 := by
        rw [show (7 : Nat) = 3 + 4 by rfl, List.take_add]
      rw [this, h2]
      congr 1
      apply List.ext_getElem?
      intro j
      rw [List.getElem?_take]
      by_cases hj : j < 4
      · rw [if_pos hj, List.getElem?_drop]
        have hlt : 3 + j < l.length := by omega
        have e2 : l[3 + j]? = some (l.getD (3 + j) 0) := by
          rw [List.getD_eq_getElem?_getD, List.getElem?_eq_getElem hlt]; rfl
        rw [e2]
        have e3 : j = 0 ∨ j = 1 ∨ j = 2 ∨ j = 3 := by omega
        rcases e3 with rfl | rfl | rfl | rfl <;> rfl
      · rw [if_neg hj, List.getElem?_eq_none (by simp; omega)]
    rw [hsplit, h7]
  have := (List.take_append_drop (l.length - 4) l).symm
  rw [h4] at this
  rw [hh] at this
  exact this
theorem frameOf_length (p : List UInt8) : (frameOf p).length = p.length + 11 := by
  unfold frameOf headOf; simp [be32, le32]
theorem headOf_length (p : List UInt8) : (headOf p).length = p.length + 7 := by
  unfold headOf; simp [be32]
theorem opens_of (p : List UInt8) (hp : p.length < 4294967296) : Opens (frameOf p) ∧ inner (frameOf p) = p := by
  have hl := frameOf_length p
  have hh := headOf_length p
  have ht : (frameOf p).take ((frameOf p).length - 4) = headOf p := by
    rw [hl, show p.length + 11 - 4 = (headOf p).length by omega]
    exact List.take_left
  refine ⟨⟨by omega, rfl, ?_, ?_⟩, ?_⟩
  · rw [hl]
    show 256 * (256 * (256 * (256 * 0 + (UInt8.ofNat (p.length / 16777216 % 256)).toNat) + (UInt8.ofNat (p.length / 65536 % 256)).toNat) + (UInt8.ofNat (p.length / 256 % 256)).toNat) + (UInt8.ofNat (p.length % 256)).toNat = _
    rw [ofNat_toNat _ (by omega), ofNat_toNat _ (by omega), ofNat_toNat _ (by omega), ofNat_toNat _ (by omega)]
    omega
  · rw [ht, hl, show p.length + 11 - 4 = (headOf p).length by omega]
    exact List.drop_left
  · unfold inner
    rw [ht]
    have e7 : ([67, 72, 1] ++ be32 p.length).length = 7 := rfl
    have := List.drop_left (l₁ := [67, 72, 1] ++ be32 p.length) (l₂ := p)
    rw [e7] at this
    exact this
end Go.Proofs.YtcidgfdiacehmaaDoor

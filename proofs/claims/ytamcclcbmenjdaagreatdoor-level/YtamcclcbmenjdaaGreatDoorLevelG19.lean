/- 'choirkeep.Level', for any list of steps (100 of them are done): when all are up, nothing is under way, and each has told each other one, all have the same, and compacted logs are the same bytes. The first form's statement and its card: no condition beside the row's own. -/
import Derived.Test.YtamcclcbmenjdaaGreatDoorLevelG15
import Derived.Test.YtamcclcbmenjdaaGreatDoorLevelG18
/- Bits, numbers and texts that are packed are read again; what stands around a payload: pure. -/
namespace Go.Proofs.YtamcclcbmenjdaaGreatDoor

theorem byteOf_bit (f : Nat → Bool) (m : Nat) (hm : m < 8) : Pl.byteOf f / 2 ^ (7 - m) % 2 = (f m).toNat := by
  have h : ∀ b : Bool, b.toNat ≤ 1 := fun b => by cases b <;> decide
  have := h (f 0); have := h (f 1); have := h (f 2); have := h (f 3); have := h (f 4); have := h (f 5); have := h (f 6); have := h (f 7)
  have e : m = 0 ∨ m = 1 ∨ m = 2 ∨ m = 3 ∨ m = 4 ∨ m = 5 ∨ m = 6 ∨ m = 7 := by omega
  unfold Pl.byteOf
  rcases e with rfl | rfl | rfl | rfl | rfl | rfl | rfl | rfl <;> simp <;> omega
theorem bitAt_pack (l : List Bool) (i : Nat) (hi : i < l.length) : bitAt (Pl.pack l) i = (l.getD i false).toNat := by
  unfold bitAt
  have hj : i / 8 < (l.length + 7) / 8 := by omega
  have e : (Pl.pack l).getD (i / 8) 0 = Pl.byteAt l (i / 8) := by
    rw [List.getD_eq_getElem?_getD, Pl.pack, List.getElem?_map, List.getElem?_range hj]; rfl
  rw [e, Pl.byteAt_toNat, byteOf_bit _ _ (Nat.mod_lt _ (by decide))]
  show (l.getD (8 * (i / 8) + i % 8) false).toNat = _
  rw [Nat.div_add_mod]
/-- The number that bits make, the highest first. -/
def bval : List Bool → Nat → Nat
  | _, 0 => 0
  | l, k + 1 => 2 * bval l k + (l.getD k false).toNat
theorem valTo_pack (l : List Bool) (p k : Nat) (h : p + k ≤ l.length) : valTo (Pl.pack l) p k = bval (l.drop p) k := by
  induction k with
  | zero => rfl
  | succ k ih =>
    rw [valTo, bval, ih (by omega), bitAt_pack l _ (by omega)]
    congr 2
    simp only [List.getD_eq_getElem?_getD, List.getElem?_drop]
theorem bval_congr (l m : List Bool) (k : Nat) (h : ∀ i, i < k → l.getD i false = m.getD i false) : bval l k = bval m k := by
  induction k with
  | zero => rfl
  | succ k ih => rw [bval, bval, ih fun i hi => h i (by omega), h k (by omega)]
theorem bval_app (l m : List Bool) : bval (l ++ m) l.length = bval l l.length :=
  bval_congr _ _ _ fun i hi => by simp only [List.getD_eq_getElem?_getD]; rw [List.getElem?_append_left hi]
theorem bval_cons (b : Bool) (l : List Bool) (k : Nat) : bval (b :: l) (k + 1) = b.toNat * 2 ^ k + bval l k := by
  induction k with
  | zero => simp [bval]
  | succ k ih =>
    rw [bval, ih, bval, Nat.pow_succ]
    simp only [List.getD_eq_getElem?_getD, List.getElem?_cons_succ]
    cases b <;> simp <;> omega
theorem bval_bitsOf (n w : Nat) : bval (Pl.bitsOf n w) w = n % 2 ^ w := by
  induction w with
  | zero => simp [bval, Nat.mod_one]
  | succ w ih =>
    rw [Pl.bitsOf, bval_cons, ih, Nat.pow_succ, Nat.mod_mul]
    have := Nat.mod_two_eq_zero_or_one (n / 2 ^ w)
    rcases this with h | h <;> simp [h] <;> omega

/-- A chunk's bytes. -/
def packed (l : List Bool) : ByteArray := ⟨(Pl.pack l).toArray⟩
theorem packed_size (l : List Bool) : (packed l).size = (l.length + 7) / 8 := by
  show (Pl.pack l).toArray.size = _
  simp [Pl.pack_length]
theorem tk_packed (A C : List Bool) (n w st : Nat) : tk (packed (A ++ (Pl.bitsOf n w ++ C))) A.length st w = (n % 2 ^ w, A.length + w, st) := by
  have hl : (A ++ (Pl.bitsOf n w ++ C)).length = A.length + w + C.length := by simp [Pl.bitsOf_length]; omega
  unfold tk
  rw [packed_size, if_neg (by omega)]
  have : valTo (packed (A ++ (Pl.bitsOf n w ++ C))).data.toList A.length w = n % 2 ^ w := by
    show valTo (Pl.pack (A ++ (Pl.bitsOf n w ++ C))).toArray.toList A.length w = _
    rw [List.toList_toArray, valTo_pack _ _ _ (by omega), List.drop_left]
    have := bval_app (Pl.bitsOf n w) C
    rw [Pl.bitsOf_length] at this
    rw [this, bval_bitsOf]
  rw [this]
theorem tk_one (A C : List Bool) (b : Bool) (st : Nat) : tk (packed (A ++ b :: C)) A.length st 1 = (b.toNat, A.length + 1, st) := by
  have h := tk_packed A C b.toNat 1 st
  have e : Pl.bitsOf b.toNat 1 ++ C = b :: C := by cases b <;> rfl
  rw [e] at h
  rw [h]
  cases b <;> rfl
theorem mk_packed (v last st : Nat) (C : List Bool) (hv : v ≤ last) : ∀ A : List Bool, mk (packed (A ++ (markOf v last ++ C))) last A.length st = (v, A.length + (markOf v last).length, st) := by
  induction v generalizing last with
  | zero =>
    intro A
    cases last with
    | zero => simp [mk, markOf]
    | succ r =>
      have e : A ++ (markOf 0 (r + 1) ++ C) = A ++ false :: C := by simp [markOf]
      rw [e, mk, tk_one]
      simp [markOf]
  | succ v ih =>
    intro A
    cases last with
    | zero => omega
    | succ r =>
      have e : A ++ (markOf (v + 1) (r + 1) ++ C) = A ++ true :: (markOf v r ++ C) := by
        simp [markOf, List.replicate_succ]
      have e2 : A ++ true :: (markOf v r ++ C) = (A ++ [true]) ++ (markOf v r ++ C) := by simp
      rw [e, mk, tk_one, if_pos (by rfl)]
      have h := ih r (by omega) (A ++ [true])
      rw [← e2, show (A ++ [true]).length = A.length + 1 by simp] at h
      simp only [h]
      have e3 : (markOf (v + 1) (r + 1)).length = (markOf v r).length + 1 := by
        simp [markOf, List.replicate_succ]
      rw [e3]
      simp only [Prod.mk.injEq, true_and, and_true]
      omega
/-- A time that was told is read. -/
theorem way_width (e : Nat) : add64 e (stepShift (stepWay e)) % 2 ^ stepWidth (stepWay e) = add64 e (stepShift (stepWay e)) := by
  unfold add64
  by_cases h0 : stepFits e 0 = true
  · have : stepWay e = 0 := by unfold stepWay; rw [if_pos h0]
    rw [this]; unfold stepFits at h0; exact Nat.mod_eq_of_lt (of_decide_eq_true h0)
  by_cases h1 : stepFits e 1 = true
  · have : stepWay e = 1 := by unfold stepWay; rw [if_neg h0, if_pos h1]
    rw [this]; unfold stepFits at h1; exact Nat.mod_eq_of_lt (of_decide_eq_true h1)
  by_cases h2 : stepFits e 2 = true
  · have : stepWay e = 2 := by unfold stepWay; rw [if_neg h0, if_neg h1, if_pos h2]
    rw [this]; unfold stepFits at h2; exact Nat.mod_eq_of_lt (of_decide_eq_true h2)
  by_cases h3 : stepFits e 3 = true
  · have : stepWay e = 3 := by unfold stepWay; rw [if_neg h0, if_neg h1, if_neg h2, if_pos h3]
    rw [this]; unfold stepFits at h3; exact Nat.mod_eq_of_lt (of_decide_eq_true h3)
  · have : stepWay e = 4 := by unfold stepWay; rw [if_neg h0, if_neg h1, if_neg h2, if_neg h3]
    rw [this]
    show (e + 0) % 18446744073709551616 % 2 ^ 64 = (e + 0) % 18446744073709551616
    omega
theorem sub_add64 (e x : Nat) (he : e < 18446744073709551616) (hx : x < 18446744073709551616) : sub64 (add64 e x) x = e := by
  unfold sub64 add64; omega
theorem add_sub64 (a b : Nat) (ha : a < 18446744073709551616) (hb : b < 18446744073709551616) : add64 b (sub64 a b) = a := by
  unfold sub64 add64; omega
theorem stepShift_lt (k : Nat) : stepShift k < 18446744073709551616 := by unfold stepShift; split <;> omega
end Go.Proofs.YtamcclcbmenjdaaGreatDoor
namespace Go.Proofs.YtamcclcbmenjdaaGreatDoor

/-- Bytes as a string's value. -/
def BA (l : List UInt8) : ByteArray := ⟨l.toArray⟩
theorem BA_size (l : List UInt8) : (BA l).size = l.length := by show l.toArray.size = _; simp
theorem BA_list (l : List UInt8) : (BA l).data.toList = l := by show l.toArray.toList = _; simp
theorem BA_of (s : ByteArray) : BA s.data.toList = s := by cases s; simp [BA]
theorem BA_drop (a c : List UInt8) : (BA (a ++ c)).extract a.length (a ++ c).length = BA c := by
  apply ByteArray.ext
  rw [ByteArray.data_extract]
  simp [BA]
theorem BA_take (a c : List UInt8) : (BA (a ++ c)).extract 0 a.length = BA a := by
  apply ByteArray.ext
  rw [ByteArray.data_extract]
  simp [BA]

theorem getD_last (C : List UInt8) (b : UInt8) (rest : List UInt8) : ((b :: rest) ++ C).getD 0 0 = b := rfl
theorem ofNat_toNat (m : Nat) (h : m < 256) : (UInt8.ofNat m).toNat = m := by simp [UInt8.toNat_ofNat']; omega
theorem rdNum_varint (C : List UInt8) (f : Nat) : ∀ (m k F : Nat) (l : List UInt8) (most : Int), m < 2 ^ (7 * (f + 1)) → (∀ j, l.getD (k + j) 0 = (Pl.varintF f m ++ C).getD j 0) → (Pl.varintF f m).length ≤ F →
    ((numTo l k + m * 2 ^ (7 * k) : Nat) : Int) ≤ most → rdNum l most F k = some (numTo l k + m * 2 ^ (7 * k), k + (Pl.varintF f m).length) := by
  have hlast : ∀ (m k F : Nat) (l : List UInt8) (most : Int), m < 128 → l.getD k 0 = UInt8.ofNat m → 1 ≤ F → ((numTo l k + m * 2 ^ (7 * k) : Nat) : Int) ≤ most → rdNum l most F k = some (numTo l k + m * 2 ^ (7 * k), k + 1) := by
    intro m k F l most hm hl hF hmost
    obtain ⟨F', rfl⟩ : ∃ F', F = F' + 1 := ⟨F - 1, by omega⟩
    have hb : (l.getD k 0).toNat = m := by rw [hl, ofNat_toNat m (by omega)]
    have hn : numTo l (k + 1) = numTo l k + m * 2 ^ (7 * k) := by rw [numTo, hb, Nat.mod_eq_of_lt hm]
    rw [rdNum, hb, if_neg (by omega), hn, if_neg (by omega)]
  induction f with
  | zero =>
    intro m k F l most hm hl hF hmost
    have h0 := hl 0
    rw [Nat.add_zero] at h0
    exact hlast m k F l most (by omega) (by rw [h0]; rfl) (by simpa [Pl.varintF] using hF) hmost
  | succ f ih =>
    intro m k F l most hm hl hF hmost
    by_cases hs : m < 128
    · rw [Pl.varintF_small _ _ hs] at hl hF ⊢
      have h0 := hl 0
      rw [Nat.add_zero] at h0
      exact hlast m k F l most hs (by rw [h0]; rfl) (by simpa using hF) hmost
    · rw [Pl.varintF_big _ _ hs] at hl hF ⊢
      have h0 := hl 0
      rw [Nat.add_zero] at h0
      rw [List.length_cons] at hF
      obtain ⟨F', rfl⟩ : ∃ F', F = F' + 1 := ⟨F - 1, by omega⟩
      have hb : (l.getD k 0).toNat = m % 128 + 128 := by
        rw [h0]
        show (UInt8.ofNat (m % 128 + 128)).toNat = _
        exact ofNat_toNat _ (by omega)
      have hn : numTo l (k + 1) = numTo l k + m % 128 * 2 ^ (7 * k) := by rw [numTo, hb]; congr 2; omega
      have hp : 2 ^ (7 * (k + 1)) = 128 * 2 ^ (7 * k) := by rw [show 7 * (k + 1) = 7 * k + 7 by omega, Nat.pow_add]; omega
      have hsum : numTo l (k + 1) + m / 128 * 2 ^ (7 * (k + 1)) = numTo l k + m * 2 ^ (7 * k) := by
        rw [hn, hp, Nat.add_assoc]
        congr 1
        rw [← Nat.mul_assoc, ← Nat.add_mul]
        congr 1
        omega
      rw [rdNum, hb, if_pos (by omega)]
      have h := ih (m / 128) (k + 1) F' l most (by
        rw [show 7 * (f + 1 + 1) = 7 * (f + 1) + 7 by omega, Nat.pow_add] at hm; omega) (fun j => by
        have := hl (j + 1)
        rw [show k + (j + 1) = k + 1 + j by omega] at this
        rw [this]; rfl) (by omega) (by rw [hsum]; exact hmost)
      rw [h, hsum, List.length_cons]
      simp; omega
theorem varintF_len (f : Nat) : ∀ (n j : Nat), n < 2 ^ (7 * (j + 1)) → (Pl.varintF f n).length ≤ j + 1 := by
  induction f with
  | zero => intro n j _; simp [Pl.varintF]
  | succ f ih =>
    intro n j h
    by_cases hs : n < 128
    · rw [Pl.varintF_small _ _ hs]; simp
    · rw [Pl.varintF_big _ _ hs, List.length_cons]
      cases j with
      | zero => omega
      | succ j =>
        have := ih (n / 128) j (by rw [show 7 * (j + 1 + 1) = 7 * (j + 1) + 7 by omega, Nat.pow_add] at h; omega)
        omega
theorem rdNum_of (n : Nat) (C : List UInt8) (most : Int) (hn : n < 2 ^ 63) (hm : (n : Int) ≤ most) : rdNum (Pl.varint n ++ C) most (min (Pl.varint n ++ C).length 9) 0 = some (n, (Pl.varint n).length) := by
  have hl : (Pl.varint n).length ≤ 9 := varintF_len 9 n 8 hn
  have h := rdNum_varint C 9 n 0 (min (Pl.varint n ++ C).length 9) (Pl.varint n ++ C) most (by omega) (fun j => by rw [Nat.zero_add]; rfl) (by
    show (Pl.varint n).length ≤ _
    rw [List.length_append]; omega) (by simpa [numTo] using hm)
  rw [h]
  simp [numTo, Pl.varint]
theorem numR_of (n : Nat) (C : List UInt8) (most : Int) (st : Nat) (hn : n < 2 ^ 63) (hm : (n : Int) ≤ most) : numR (BA (Pl.varint n ++ C)) most st = (n, BA C, st) := by
  unfold numR
  rw [BA_list, BA_size, rdNum_of n C most hn hm]
  simp only
  rw [BA_drop]
theorem textR_of (x C : List UInt8) (most : Int) (st : Nat) (hn : x.length < 2 ^ 63) (hm : (x.length : Int) ≤ most) : textR (BA (Pl.varint x.length ++ (x ++ C))) most st = (BA x, BA C, st) := by
  unfold textR
  rw [BA_list, BA_size, rdNum_of _ _ most hn hm]
  simp only
  rw [BA_drop, BA_size, if_pos (by rw [List.length_append, List.length_append]; omega), BA_take, BA_drop]
end Go.Proofs.YtamcclcbmenjdaaGreatDoor
namespace Go.Proofs.YtamcclcbmenjdaaGreatDoor

/-- The number that the bytes from the third on make, the highest first. -/
def pszTo (l : List UInt8) : Nat → Nat
  | 0 => 0
  | k + 1 => 256 * pszTo l k + (l.getD (3 + k) 0).toNat
theorem pszTo_lt (l : List UInt8) (k : Nat) : pszTo l k < 256 ^ k := by
  induction k with
  | zero => simp [pszTo]
  | succ k ih => rw [pszTo, Nat.pow_succ]; have := (l.getD (3 + k) 0).toNat_lt; omega
/-- What stands around the payload is right. -/
structure Opens (l : List UInt8) : Prop where
  long : 11 ≤ l.length
  mark : l.take 3 = [67, 72, 1]
  size : pszTo l 4 = l.length - 11
  sum : l.drop (l.length - 4) = le32 (Pl.crc (l.take (l.length - 4)))
def inner (l : List UInt8) : List UInt8 := (l.take (l.length - 4)).drop 7
theorem be32_of (a b c d : UInt8) (n : Nat) (h : n = 256 * (256 * (256 * a.toNat + b.toNat) + c.toNat) + d.toNat) : be32 n = [a, b, c, d] := by
  have ha := a.toNat_lt
  have hb := b.toNat_lt
  have hc := c.toNat_lt
  have hd := d.toNat_lt
  have e1 : n / 16777216 % 256 = a.toNat := by omega
  have e2 : n / 65536 % 256 = b.toNat := by omega
  have e3 : n / 256 % 256 = c.toNat := by omega
  have e4 : n % 256 = d.toNat := by omega
  unfold be32
  rw [e1, e2, e3, e4]
  simp
theorem frame_of {l : List UInt8} (h : Opens l) : l = frameOf (inner l) ∧ (inner l).length = l.length - 11 := by
  obtain ⟨h1, h2, h3, h4⟩ := h
  have hl : (inner l).length = l.length - 11 := by unfold inner; rw [List.length_drop, List.length_take]; omega
  refine ⟨?_, hl⟩
  have hh : l.take (l.length - 4) = headOf (inner l) := by
    unfold headOf
    rw [hl, ← h3]
    have e : ∀ k, k < 7 → (l.take (l.length - 4))[k]? = l[k]? := fun k hk => by rw [List.getElem?_take, if_pos (by omega)]
    have hb : be32 (pszTo l 4) = [l.getD 3 0, l.getD 4 0, l.getD 5 0, l.getD 6 0] := be32_of _ _ _ _ _ (by simp only [pszTo, Nat.mul_zero, Nat.zero_add, Nat.add_zero])
    rw [hb]
    have hsplit : l.take (l.length - 4) = (l.take (l.length - 4)).take 7 ++ inner l := (List.take_append_drop 7 _).symm
    have h7 : (l.take (l.length - 4)).take 7 = [67, 72, 1] ++ [l.getD 3 0, l.getD 4 0, l.getD 5 0, l.getD 6 0] := by
      rw [List.take_take, show min 7 (l.length - 4) = 7 by omega]
      have : l.take 7 = l.take 3 ++ (l.drop 3).take 4 := by
        rw [show (7 : Nat) = 3 + 4 by rfl, List.take_add]
      rw [this, h2]
      congr 1
      apply List.ext_getElem?
      intro j
      rw [List.getElem?_take]
      by_cases hj : j < 4
      · rw [if_pos hj, List.getElem?_drop]
        have hlt : 3 + j < l.length := by omega
        have e2 : l[3 + j]? = some (l.getD (3 + j) 0) := by
          rw [List.getD_eq_getElem?_getD, List.getElem?_eq_getElem hlt]; rfl
        rw [e2]
        have e3 : j = 0 ∨ j = 1 ∨ j = 2 ∨ j = 3 := by omega
        rcases e3 with rfl | rfl | rfl | rfl <;> rfl
      · rw [if_neg hj, List.getElem?_eq_none (by simp; omega)]
    rw [hsplit, h7]
  have := (List.take_append_drop (l.length - 4) l).symm
  rw [h4] at this
  rw [hh] at this
  exact this
theorem frameOf_length (p : List UInt8) : (frameOf p).length = p.length + 11 := by
  unfold frameOf headOf; simp [be32, le32]
theorem headOf_length (p : List UInt8) : (headOf p).length = p.length + 7 := by
  unfold headOf; simp [be32]
theorem opens_of (p : List UInt8) (hp : p.length < 4294967296) : Opens (frameOf p) ∧ inner (frameOf p) = p := by
  have hl := frameOf_length p
  have hh := headOf_length p
  have ht : (frameOf p).take ((frameOf p).length - 4) = headOf p := by
    rw [hl, show p.length + 11 - 4 = (headOf p).length by omega]
    exact List.take_left
  refine ⟨⟨by omega, rfl, ?_, ?_⟩, ?_⟩
  · rw [hl]
    show 256 * (256 * (256 * (256 * 0 + (UInt8.ofNat (p.length / 16777216 % 256)).toNat) + (UInt8.ofNat (p.length / 65536 % 256)).toNat) + (UInt8.ofNat (p.length / 256 % 256)).toNat) + (UInt8.ofNat (p.length % 256)).toNat = _
    rw [ofNat_toNat _ (by omega), ofNat_toNat _ (by omega), ofNat_toNat _ (by omega), ofNat_toNat _ (by omega)]
    omega
  · rw [ht, hl, show p.length + 11 - 4 = (headOf p).length by omega]
    exact List.drop_left
  · unfold inner
    rw [ht]
    have e7 : ([67, 72, 1] ++ be32 p.length).length = 7 := rfl
    have := List.drop_left (l₁ := [67, 72, 1] ++ be32 p.length) (l₂ := p)
    rw [e7] at this
    exact this
end Go.Proofs.YtamcclcbmenjdaaGreatDoor

/- payloadSize, open. -/
namespace Go.Proofs.YtamcclcbmenjdaaGreatDoor
open Go.RowKit Go.Lib

theorem or_byte (V b : Nat) (hV : V < 16777216) (hb : b < 256) : Go.bits .or .i64 ((V : Int) * 256) (b : Int) = ((256 * V + b : Nat) : Int) := by
  have h := bits_join .i64 63 (by decide) Pl.wraps_i64 8 ((V : Int) * 256) b (by omega) (by omega) (by omega) (by omega) (by omega) (by omega)
  rw [h]; omega

set_option maxRecDepth 100000 in
set_option maxHeartbeats 400000 in
theorem payloadSize_any (s : ByteArray) (w : World) (h7 : 7 ≤ s.size) :
    Calls Tryz.prog 105 #[.string s] w fun e w' => e = .returned (.int .i64 (pszTo s.data.toList 4 : Nat)) ∧ w' = w := by
  go_enter Tryz.func105, Tryz.ntmps105
  go_wp2
  go_loop [3, 4] (fun n i => ∃ k : Nat, k ≤ 4 ∧ i = .int .i64 (3 + k : Nat) ∧ n = .int .i64 (pszTo s.data.toList k : Nat)) (fun _ i => 7 - (intOf i).toNat)
  case atStart => exact ⟨0, by omega, rfl, rfl⟩
  case round =>
    obtain ⟨k, hk, rfl, rfl⟩ := hrel
    by_cases hlt : k < 4
    · have hi : 3 + k < s.size := by omega
      have hV : pszTo s.data.toList k < 16777216 := Nat.lt_of_lt_of_le (pszTo_lt _ k) (Nat.pow_le_pow_right (by decide) (by omega : k ≤ 3))
      have hor := or_byte (pszTo s.data.toList k) s[3 + k].toNat hV s[3 + k].toNat_lt
      have hw1 : IntKind.i64.wrap ((pszTo s.data.toList k : Int) * 256) = (pszTo s.data.toList k : Int) * 256 := by rw [IntKind.wrap_i64]; omega
      have HN : Hid (pszTo s.data.toList (k + 1) = 256 * pszTo s.data.toList k + s[3 + k].toNat) := by
        show _ = _
        rw [pszTo, getD_byte s (3 + k) hi]
      have hwb := wrap64_nat s[3 + k].toNat (by have := s[3 + k].toNat_lt; omega)
      have HW := hide hwb
      clear hwb
      go_wp2
      go_round
      case rel => exact ⟨k + 1, by omega, val_int (by omega), val_int (by rw [HN.out, ← hor, HW.out])⟩
      case measure => simp [intOf]; omega
    · have hke : k = 4 := by omega
      subst hke
      go_wp2
      go_ret
      exact ⟨rfl, rfl⟩

/-- Bytes of a text. -/
theorem ext_list (s : ByteArray) (a b : Nat) : (s.extract a b).data.toList = (s.data.toList.take b).drop a := by
  rw [ByteArray.data_extract, Array.toList_extract, List.extract_eq_take_drop, List.drop_take]

set_option maxRecDepth 100000 in
set_option maxHeartbeats 400000 in
theorem open_any (s : ByteArray) (w : World) (hs : s.size ≤ 140737488355328) :
    Calls Tryz.prog 80 #[.string s] w fun e w' => ((Opens s.data.toList ∧ e = .returned (.tuple #[.string (BA (inner s.data.toList)), .bool true])) ∨ (¬ Opens s.data.toList ∧ e = .returned (.tuple #[.string ⟨#[]⟩, .bool false]))) ∧ Below w.heap.size w w' := by
  have hl : s.data.toList.length = s.size := by simp
  by_cases h11 : s.size < 11
  · have hno : ¬ Opens s.data.toList := fun h => by have := h.long; omega
    have HNo := hide hno
    have hlt : (s.size : Int) - 4 < 7 := by omega
    clear hno
    go_enter Tryz.func80, Tryz.ntmps80
    go_wp2
    go_ret2
    exact ⟨.inr ⟨HNo.out, rfl⟩, Below.refl _ _⟩
  · obtain ⟨E, hE⟩ : ∃ E, s.size = E + 4 := ⟨s.size - 4, by omega⟩
    have hEi : (s.size : Int) - 4 = (E : Int) := by omega
    have hge : ¬ ((E : Int) < 7) := by omega
    have hged : decide ((E : Int) < 7) = false := decide_eq_false hge
    have hE2 : (E : Int) ≤ (s.size : Int) := by omega
    have hE7 : 7 ≤ E := by omega
    have HE := hide hE
    have hmk : ((s.extract 0 3).toList = [67, 72, 1]) ↔ s.data.toList.take 3 = [67, 72, 1] := by
      rw [ByteArray.toList_eq, ext_list]; simp
    clear hE
    go_enter Tryz.func80, Tryz.ntmps80
    by_cases hm : (s.extract 0 3).toList = [67, 72, 1]
    · have C1 := hide (payloadSize_any s w (by have := HE.out; omega))
      have hpl := pszTo_lt s.data.toList 4
      have HM := hide (hmk.1 hm)
      by_cases hz : pszTo s.data.toList 4 = s.size - 11
      · have HZ := hide hz
        have hzb : (((pszTo s.data.toList 4 : Nat) : Int) != (E : Int) - 7) = false := by have := HE.out; simp; omega
        clear hz hmk
        go_wp2_with fail
        refine C1.out.mono ?_
        rintro e w1 ⟨rfl, rfl⟩
        have CS := hide (sumBytes_any (s.extract 0 E) w1.drew (by simp; unfold maxLen; omega))
        clear C1
        go_wp2
        have hE3 : (E : Int).toNat = E := rfl
        as_aux_lemma =>
          go_region_with (first | (go_at_call 84; refine CS.out.mono ?_; rintro r w2 ⟨sv, rfl, hsb, hb2⟩; have hcv := run_string_of hsb (by simp [le32])))
          all_goals
            have hsz2 := hb2.size
            have HB2 : Hid (Below w1.heap.size w1 w2) := ((Below.refl w1.heap.size w1).drew).trans hb2
            have e4 : (s.extract E s.size).toList = s.data.toList.drop (s.data.toList.length - 4) := by
              rw [ByteArray.toList_eq, ext_list, show s.data.toList.length - 4 = E by have := HE.out; omega, List.take_of_length_le (by omega)]
            have eE : s.data.toList.length - 4 = E := by have := HE.out; omega
            by_cases hc : (s.extract E s.size).toList = le32 (Pl.crc (s.data.toList.take E))
            · have hcb : (!((s.extract E s.size).toList == le32 (Pl.crc (s.data.toList.take E)))) = false := by simpa using hc
              have HO : Hid (Opens s.data.toList) := ⟨by have := HE.out; omega, HM.out, by rw [hl]; exact HZ.out, by rw [← e4, eE]; exact hc⟩
              clear hc hcv hsb hb2 CS e4
              go_wp2
              · rename_i hx; rw [hcb] at hx; cases hx
              go_ret2
              have e7 : s.extract 7 E = BA (inner s.data.toList) := by
                rw [← BA_of (s.extract 7 E), ext_list, inner, eE]
              exact ⟨.inl ⟨HO.out, by rw [← e7]; rfl⟩, HB2.out⟩
            · have hcb : (!((s.extract E s.size).toList == le32 (Pl.crc (s.data.toList.take E)))) = true := by simpa using hc
              have HNo : Hid (¬ Opens s.data.toList) := fun h => hc (by have := h.sum; rw [e4, this, eE])
              clear hc hcv hsb hb2 CS e4 eE
              go_wp2
              · go_ret2
                exact ⟨.inr ⟨HNo.out, rfl⟩, HB2.out⟩
              · rename_i hx; rw [hcb] at hx; cases hx
      · have hzb : (((pszTo s.data.toList 4 : Nat) : Int) != (E : Int) - 7) = true := by have := HE.out; simp; omega
        have HNo : Hid (¬ Opens s.data.toList) := fun h => hz (by have := h.size; omega)
        clear hz hmk
        go_wp2_with fail
        refine C1.out.mono ?_
        rintro e w1 ⟨rfl, rfl⟩
        clear C1
        go_wp2
        go_ret2
        exact ⟨.inr ⟨HNo.out, rfl⟩, Below.refl _ _⟩
    · have HNo : Hid (¬ Opens s.data.toList) := fun h => hm (hmk.2 h.mark)
      clear hmk
      go_wp2
      go_ret2
      exact ⟨.inr ⟨HNo.out, rfl⟩, Below.refl _ _⟩
end Go.Proofs.YtamcclcbmenjdaaGreatDoor

/- Unpack, Decode. -/
namespace Go.Proofs.YtamcclcbmenjdaaGreatDoor
open Go.RowKit Go.Lib

theorem toI_range (t : Nat) (h : t ≤ 18446744073709551615) : -9223372036854775808 ≤ toI t ∧ toI t ≤ 9223372036854775807 := by
  unfold toI; split <;> omega
theorem seqU_range (s : ByteArray) (u : US) (h : UOk s u) (n : Nat) : ∀ x ∈ (seqU s u n).1, -9223372036854775808 ≤ x.1 ∧ x.1 ≤ 9223372036854775807 ∧ x.2 ≤ 18446744073709551615 := by
  have hone : ∀ v : US, UOk s v → -9223372036854775808 ≤ (samU v).1 ∧ (samU v).1 ≤ 9223372036854775807 ∧ (samU v).2 ≤ 18446744073709551615 := fun v hv =>
    ⟨(toI_range v.t hv.ht).1, (toI_range v.t hv.ht).2, hv.hb⟩
  induction n with
  | zero => intro x hx; rw [List.mem_singleton.1 hx]; exact hone u h
  | succ n ih =>
    intro x hx
    rcases List.mem_append.1 hx with hx | hx
    · exact ih x hx
    · rw [List.mem_singleton.1 hx]; exact hone _ (h.seq n).step
theorem firstU_ok (s : ByteArray) : UOk s (firstU s) := by
  have h1 := tk_lt s 0 0 64
  have h2 := tk_lt s (tk s 0 0 64).2.1 (tk s 0 0 64).2.2 64
  exact ⟨by show (tk s 0 0 64).1 ≤ _; omega, Nat.zero_le _, by show (tk s (tk s 0 0 64).2.1 (tk s 0 0 64).2.2 64).1 ≤ _; omega, by show 0 + 0 ≤ 64; omega, tk_pos _ _ _ _ (tk_pos _ _ _ _ (Nat.zero_le _))⟩
theorem samplesR_range (p : Rest) : ∀ x ∈ (samplesR p).1, -9223372036854775808 ≤ x.1 ∧ x.1 ≤ 9223372036854775807 ∧ x.2 ≤ 18446744073709551615 := by
  unfold samplesR
  simp only
  split
  · intro x hx; cases hx
  · split <;> exact seqU_range _ _ (firstU_ok _) _
theorem samplesR_len (p : Rest) : (samplesR p).1.length ≤ 41 := by
  have hn : (numR p.1 40 p.2).1 ≤ 40 := num_nat p 40
  unfold samplesR
  simp only
  split
  · simp
  · split <;> (show (chunkR _ _).1.length ≤ 41; unfold chunkR; rw [seqU_length]; omega)
theorem labsR_len (texts : List ByteArray) (p : Rest) : (labsR texts p).1.length ≤ 4 := by
  unfold labsR; rw [seqTo_length]; exact num_nat p 4
theorem serR_small (texts : List ByteArray) (q : Rest) : (serR texts q).1.1.length ≤ 4 ∧ (serR texts q).1.2.length ≤ 41 ∧ ∀ y ∈ (serR texts q).1.2, -9223372036854775808 ≤ y.1 ∧ y.1 ≤ 9223372036854775807 ∧ y.2 ≤ 18446744073709551615 := by
  unfold serR
  exact ⟨labsR_len texts q, samplesR_len _, samplesR_range _⟩
theorem seq_small (texts : List ByteArray) (q : Rest) (n : Nat) (hn : n ≤ 8) : Small (seqTo (serR texts) q n).1 ∧ InRange (seqTo (serR texts) q n).1 := by
  have h := seqTo_all (serR texts) (fun x : Ser => x.1.length ≤ 4 ∧ x.2.length ≤ 41 ∧ ∀ y ∈ x.2, -9223372036854775808 ≤ y.1 ∧ y.1 ≤ 9223372036854775807 ∧ y.2 ≤ 18446744073709551615) (fun q => serR_small texts q) q n
  have hl := seqTo_length (serR texts) q n
  generalize (seqTo (serR texts) q n).1 = l at *
  exact ⟨⟨by omega, fun s hs => by have := (h s hs).1; omega, fun s hs => by have := (h s hs).2.1; omega⟩, fun s hs => (h s hs).2.2⟩
theorem payR_small (s : ByteArray) : Small (payR s).1 ∧ InRange (payR s).1 := by
  unfold payR
  exact seq_small _ _ _ (num_nat (textsR (s, 0)).2 8)
theorem payR_st (s : ByteArray) : (payR s).2.2 ≤ 1 := by
  have h0 : Short s.size ((s, 0) : Rest) := ⟨Nat.le_refl _, by omega⟩
  have h1 := short_texts h0
  unfold payR
  simp only
  exact (seqTo_inv (serR (textsR (s, 0)).1) (Short s.size) (fun _ h => short_ser _ h) _ (short_num h1 8) _).2

/-- The series that are read out of a text. -/
def got (l : List UInt8) : List Ser := (payR (BA (inner l))).1
/-- It is a frame. -/
structure IsFrame (l : List UInt8) : Prop where
  opens : Opens l
  whole : (payR (BA (inner l))).2.2 = 0
  batch : BatchOk (got l)
  limits : LimitsOk (got l)
  again : payload (got l) = inner l
theorem IsFrame.eq {l : List UInt8} (h : IsFrame l) : l = frameOf (payload (got l)) := by
  rw [h.again]; exact (frame_of h.opens).1

set_option maxRecDepth 100000 in
set_option maxHeartbeats 400000 in
theorem unpack_any (s : ByteArray) (w : World) (hs : s.size ≤ 140737488355328) (hT : Tabs w) :
    Calls Tryz.prog 45 #[.string s] w fun e w' => ((IsFrame s.data.toList ∧ ∃ v, e = .returned (.tuple #[v, .bool true]) ∧ FreshD w' w.heap.size v (got s.data.toList)) ∨ (¬ IsFrame s.data.toList ∧ e = .returned (.tuple #[.slice none 0 0, .bool false]))) ∧ Below w.heap.size w w' := by
  have C1 := hide (open_any s w hs)
  have HT := hide hT
  have h3 := hT.lt
  clear hT
  go_enter Tryz.func45, Tryz.ntmps45
  go_wp2_with fail
  refine C1.out.mono ?_
  rintro e w1 ⟨⟨ho, rfl⟩ | ⟨ho, rfl⟩, hb1⟩
  · have hin := (frame_of ho).2
    have hT1 := HT.out.below hb1 h3
    have hlen : (BA (inner s.data.toList)).size ≤ 140737488355328 := by rw [BA_size, hin]; simp; omega
    have C2 := hide (unpackPayload_any (BA (inner s.data.toList)) w1 hlen hT1)
    have hst := payR_st (BA (inner s.data.toList))
    have hsm := payR_small (BA (inner s.data.toList))
    have HO := hide ho
    have HF1 : Hid ((payR (BA (inner s.data.toList))).2.2 = 0 → BatchOk (payR (BA (inner s.data.toList))).1 → LimitsOk (payR (BA (inner s.data.toList))).1 → payload (payR (BA (inner s.data.toList))).1 = inner s.data.toList → IsFrame s.data.toList) := fun h1 h2 h3 h4 => ⟨HO.out, h1, h2, h3, h4⟩
    have HF2 : Hid (IsFrame s.data.toList → (payR (BA (inner s.data.toList))).2.2 = 0 ∧ BatchOk (payR (BA (inner s.data.toList))).1 ∧ LimitsOk (payR (BA (inner s.data.toList))).1 ∧ payload (payR (BA (inner s.data.toList))).1 = inner s.data.toList) := fun h => ⟨h.whole, h.batch, h.limits, h.again⟩
    have HG : Hid (got s.data.toList = (payR (BA (inner s.data.toList))).1) := rfl
    generalize payR (BA (inner s.data.toList)) = r at *
    obtain ⟨bs, q, st⟩ := r
    simp only at C2 hst hsm HF1 HF2 HG
    have HB1 := hide hb1
    have HSm := hide hsm.1
    have HRg := hide hsm.2
    have HT1 := hide hT1
    have hs1 := hb1.size
    generalize inner s.data.toList = p at *
    clear ho hb1 hT1 hsm C1 hin HO hlen
    go_wp2_with fail
    refine C2.out.mono ?_
    rintro e w2 ⟨v, rfl, hf2, hb2⟩
    have HFr := hide hf2
    have HB2 := hide (HB1.out.trans (hb2.mono hs1))
    have hT2 := HT1.out.below hb2 (by omega)
    have hs2 := hb2.size
    have hBA := hf2.batchAt HRg.out
    obtain ⟨va, vc, rfl, _⟩ := id hBA
    by_cases h1 : st = 1
    · subst h1
      have HNo : Hid (¬ IsFrame s.data.toList) := fun h => by have := (HF2.out h).1; omega
      clear hf2 hb2 hT2 hBA C2 HF1 HF2
      go_wp2
      go_ret2
      exact ⟨.inr ⟨HNo.out, rfl⟩, HB2.out⟩
    · obtain rfl : st = 0 := by omega
      have C3 := hide (check_any w2.heap.size w2.heap.size _ bs (w2.alloc (.cells #[.slice va bs.length vc] 39)) (World.cell?_alloc_new _ _ _ 0) (hBA.kept fun k hk => heap_alloc_old w2 _ hk) (by simp) (by simp) HSm.out)
      have HBA := hide hBA
      have HT2 := hide hT2
      clear hf2 hb2 hT2 hBA C2 hst h1
      go_wp2_with fail
      refine C3.out.mono ?_
      rintro e w3 ⟨⟨n, rfl, hn⟩, hb3⟩
      have hb3' : Below w2.heap.size w2 w3 := ((Below.refl w2.heap.size w2).alloc (Nat.le_refl _) _).trans (hb3.mono (by simp))
      have HB3 := hide (HB2.out.trans (hb3'.mono (by omega)))
      have hs3 := hb3'.size
      have HFr3 : Hid (FreshD w3 w1.heap.size (.slice va bs.length vc) bs) := HFr.out.kept fun k _ hk => hb3'.block k hk
      by_cases h0 : n = 0
      · subst h0
        have hok : BatchOk bs ∧ LimitsOk bs := by
          rcases hn with ⟨h, _⟩ | ⟨h, _⟩ | ⟨_, h⟩
          · cases h
          · cases h
          · exact h
        have hF := fits_of hok.1 hok.2
        have hp := payload_bounds hF
        have hT3 := HT2.out.below hb3' (by omega)
        have C4 := hide (packPayload_any w2.heap.size _ bs w3 (HBA.out.below hb3' (Nat.le_refl _)) hs3 hT3 hF)
        have HOk := hide hok
        have hpp := hp.2
        clear hb3 hb3' hn hok hF hT3 hp C3 HBA HT2 HFr
        go_wp2_with fail
        refine C4.out.mono ?_
        rintro e w4 ⟨pv, rfl, hby, hb4⟩
        have hcv := run_string_of hby hpp
        have HB4 := hide (HB3.out.trans (hb4.mono (by omega)))
        have HFr4 : Hid (FreshD w4 w1.heap.size (.slice va bs.length vc) bs) := HFr3.out.kept fun k _ hk => hb4.block k hk
        clear hby hb4 C4 HFr3 HB3
        have eT : (BA p).toList = p := by rw [ByteArray.toList_eq, BA_list]
        by_cases hc : payload bs = p
        · have hcb : (!(payload bs == (BA p).toList)) = false := by rw [eT]; simpa using hc
          have HYes := hide (HF1.out trivial HOk.out.1 HOk.out.2 hc)
          clear hc HF1 HF2 eT
          go_wp2
          go_ret2
          refine ⟨.inl ⟨HYes.out, _, rfl, ?_⟩, HB4.out⟩
          rw [HG.out]
          exact HFr4.out.mono hs1
        · have hcb : (!(payload bs == (BA p).toList)) = true := by rw [eT]; simpa using hc
          have HNo : Hid (¬ IsFrame s.data.toList) := fun h => hc (HF2.out h).2.2.2
          clear hc HF1 HF2 eT
          go_wp2
          go_ret2
          exact ⟨.inr ⟨HNo.out, rfl⟩, HB4.out⟩
      · have hne : ((n : Int) != 0) = true := by simp; omega
        have HNo : Hid (¬ IsFrame s.data.toList) := fun h => by
          have := HF2.out h
          rcases hn with ⟨_, h'⟩ | ⟨_, _, h'⟩ | ⟨h', _⟩
          · exact h' this.2.1
          · exact h' this.2.2.1
          · exact h0 h'
        clear hb3 hb3' hn C3 HF1 HF2
        go_wp2
        go_ret2
        exact ⟨.inr ⟨HNo.out, rfl⟩, HB3.out⟩
  · have HNo : Hid (¬ IsFrame s.data.toList) := fun h => ho h.opens
    have HB1 := hide hb1
    clear hb1 ho C1
    go_wp2
    go_ret2
    exact ⟨.inr ⟨HNo.out, rfl⟩, HB1.out⟩

set_option maxHeartbeats 400000 in
theorem decode_any (s : ByteArray) (w : World) (hs : s.size ≤ 140737488355328) (hT : Tabs w) :
    Calls Tryz.prog 34 #[.string s] w fun e w' => ((IsFrame s.data.toList ∧ ∃ v, e = .returned (.tuple #[v, .int .i64 0]) ∧ FreshD w' w.heap.size v (got s.data.toList)) ∨ (¬ IsFrame s.data.toList ∧ e = .returned (.tuple #[.slice none 0 0, .int .i64 3]))) ∧ Below w.heap.size w w' := by
  have C1 := hide (unpack_any s w hs hT)
  clear hT
  go_enter Tryz.func34, Tryz.ntmps34
  go_wp2_with fail
  refine C1.out.mono ?_
  rintro e w1 ⟨⟨ho, v, rfl, hf⟩ | ⟨ho, rfl⟩, hb1⟩
  · have HO := hide ho
    have HF := hide hf
    have HB := hide hb1
    clear ho hf hb1 C1
    go_wp2
    go_ret2
    exact ⟨.inl ⟨HO.out, _, rfl, HF.out⟩, HB.out⟩
  · have HO := hide ho
    have HB := hide hb1
    clear ho hb1 C1
    go_wp2
    go_ret2
    exact ⟨.inr ⟨HO.out, rfl⟩, HB.out⟩
end Go.Proofs.YtamcclcbmenjdaaGreatDoor

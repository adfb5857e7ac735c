/- 'choirlaw.Merges', for any list of texts of bulk at most 1048576: Merge answers the document's frame or error; what is handed in stays. The second form's statement and its card: its only condition is the row's own bound on the argument's bulk. -/
import Derived.Test.YtamcclcbmenjdaaGreatDoorMergesuptoG15
import Derived.Test.YtamcclcbmenjdaaGreatDoorMergesuptoG2
/- What the reference's Decode makes of bytes, as functions; what is packed is read again: pure. -/
namespace Go.Proofs.YtamcclcbmenjdaaGreatDoor

/-- Texts, at most k. -/
def tQ (S : ByteArray) : Nat → Nat → Bool → List ByteArray × Nat × Bool
  | 0, at', bad => ([], at', bad)
  | k + 1, at', bad => if bad = true then ([], at', bad) else
    ((partR S (vR S at' false).2.1 (vR S at' false).2.2 (vR S at' false).1).1 :: (tQ S k (partR S (vR S at' false).2.1 (vR S at' false).2.2 (vR S at' false).1).2.1 (partR S (vR S at' false).2.1 (vR S at' false).2.2 (vR S at' false).1).2.2).1,
      (tQ S k (partR S (vR S at' false).2.1 (vR S at' false).2.2 (vR S at' false).1).2.1 (partR S (vR S at' false).2.1 (vR S at' false).2.2 (vR S at' false).1).2.2).2)
/-- Labels, k of them. -/
def lQ (S : ByteArray) (t : List ByteArray) : Nat → Nat → Bool → Option (List Lab × Nat)
  | 0, at', bad => if bad = true then none else some ([], at')
  | k + 1, at', bad => if bad = true then none else
    if t.length ≤ (vR S at' false).1 ∨ t.length ≤ (vR S (vR S at' false).2.1 (vR S at' false).2.2).1 then none else
    (lQ S t k (vR S (vR S at' false).2.1 (vR S at' false).2.2).2.1 (vR S (vR S at' false).2.1 (vR S at' false).2.2).2.2).map fun r => ((t.getD (vR S at' false).1 ByteArray.empty, t.getD (vR S (vR S at' false).2.1 (vR S at' false).2.2).1 ByteArray.empty) :: r.1, r.2)
/-- The samples of a series. -/
def mQ (S : ByteArray) (at' : Nat) (bad : Bool) : Option (List (Int × Nat) × Nat) :=
  (samplesQ (partR S (vR S (vR S at' bad).2.1 (vR S at' bad).2.2).2.1 (vR S (vR S at' bad).2.1 (vR S at' bad).2.2).2.2 (vR S (vR S at' bad).2.1 (vR S at' bad).2.2).1).1 (vR S at' bad).1).map fun l => (l, (partR S (vR S (vR S at' bad).2.1 (vR S at' bad).2.2).2.1 (vR S (vR S at' bad).2.1 (vR S at' bad).2.2).2.2 (vR S (vR S at' bad).2.1 (vR S at' bad).2.2).1).2.1)
def serQ (S : ByteArray) (t : List ByteArray) (at' : Nat) : Option (Ser × Nat) :=
  if 4 < (vR S at' false).1 then none else
  match lQ S t (vR S at' false).1 (vR S at' false).2.1 (vR S at' false).2.2 with
  | none => none
  | some (l, a1) => (mQ S a1 false).map fun r => ((l, r.1), r.2)
/-- Series, k of them. -/
def gQ (S : ByteArray) (t : List ByteArray) : Nat → Nat → Option (List Ser)
  | 0, _ => some []
  | k + 1, at' => match serQ S t at' with
    | none => none
    | some (s, a1) => (gQ S t k a1).map (s :: ·)
/-- All that stands behind the seventh byte. -/
def decQ (S : ByteArray) : Option (List Ser) :=
  let n := vR S 7 false
  let t := tQ S n.1 n.2.1 n.2.2
  let m := vR S t.2.1 t.2.2
  if m.2.2 = true ∨ 8 < m.1 then none else gQ S t.1 m.1 m.2.1

theorem byteAt_BA (A l : List UInt8) (j : Nat) : byteAt (BA (A ++ l)) (A.length + j) = (l.getD j 0).toNat := by
  unfold byteAt
  rw [BA_list, List.getD_eq_getElem?_getD, List.getElem?_append_right (by omega), Nat.add_sub_cancel_left, ← List.getD_eq_getElem?_getD]
theorem vGo_of (C : List UInt8) (f : Nat) : ∀ (A : List UInt8) (m k n F : Nat), m < 2 ^ (7 * k) → m < 2 ^ (7 * (f + 1)) → 0 < k → vGo (BA (A ++ (Pl.varintF f m ++ C))) k A.length false n F = (n + F * m, A.length + (Pl.varintF f m).length, false) := by
  have hlast : ∀ (A : List UInt8) (m k n F : Nat), m < 128 → 0 < k → vGo (BA (A ++ ([UInt8.ofNat m] ++ C))) k A.length false n F = (n + F * m, A.length + 1, false) := by
    intro A m k n F hm hk
    obtain ⟨k', rfl⟩ : ∃ k', k = k' + 1 := ⟨k - 1, by omega⟩
    have hb : byteAt (BA (A ++ ([UInt8.ofNat m] ++ C))) A.length = m := by
      have := byteAt_BA A ([UInt8.ofNat m] ++ C) 0
      rw [Nat.add_zero] at this
      rw [this]
      show (UInt8.ofNat m).toNat = m
      exact ofNat_toNat m (by omega)
    rw [vGo, hb, if_neg (by rw [BA_size]; simp), if_pos hm, Nat.mod_eq_of_lt hm]
  induction f with
  | zero =>
    intro A m k n F h1 h2 hk
    have hm : m < 128 := by simpa using h2
    have := hlast A m k n F hm hk
    simpa [Pl.varintF] using this
  | succ f ih =>
    intro A m k n F h1 h2 hk
    by_cases hs : m < 128
    · rw [Pl.varintF_small _ _ hs]; exact hlast A m k n F hs hk
    · rw [Pl.varintF_big _ _ hs]
      obtain ⟨k', rfl⟩ : ∃ k', k = k' + 1 := ⟨k - 1, by omega⟩
      have hk' : 0 < k' := by
        rcases Nat.eq_zero_or_pos k' with h | h
        · subst h; simp at h1; omega
        · exact h
      have hb : byteAt (BA (A ++ ((UInt8.ofNat (m % 128 + 128) :: Pl.varintF f (m / 128)) ++ C))) A.length = m % 128 + 128 := by
        have := byteAt_BA A ((UInt8.ofNat (m % 128 + 128) :: Pl.varintF f (m / 128)) ++ C) 0
        exact this.trans (ofNat_toNat _ (by omega))
      have e : A ++ ((UInt8.ofNat (m % 128 + 128) :: Pl.varintF f (m / 128)) ++ C) = (A ++ [UInt8.ofNat (m % 128 + 128)]) ++ (Pl.varintF f (m / 128) ++ C) := by simp
      have h := ih (A ++ [UInt8.ofNat (m % 128 + 128)]) (m / 128) k' (n + F * (m % 128)) (F * 128) (by
        rw [show 7 * (k' + 1) = 7 * k' + 7 by omega, Nat.pow_add] at h1; omega) (by
        rw [show 7 * (f + 1 + 1) = 7 * (f + 1) + 7 by omega, Nat.pow_add] at h2; omega) hk'
      rw [← e, List.length_append, List.length_singleton] at h
      have hmod : (m % 128 + 128) % 128 = m % 128 := by omega
      have hsz : ¬ (BA (A ++ ((UInt8.ofNat (m % 128 + 128) :: Pl.varintF f (m / 128)) ++ C))).size < A.length + 1 := by rw [BA_size]; simp
      have hnum : n + F * (m % 128) + F * 128 * (m / 128) = n + F * m := by
        rw [Nat.mul_assoc, Nat.add_assoc, ← Nat.mul_add]
        congr 2
        omega
      show vGo (BA (A ++ ((UInt8.ofNat (m % 128 + 128) :: Pl.varintF f (m / 128)) ++ C))) (k' + 1) A.length false n F = _
      rw [vGo, hb, if_neg (by rintro (h | h); cases h; exact hsz h), if_neg (by omega), hmod, h, hnum, List.length_cons]
      simp; omega
theorem vR_of (A C : List UInt8) (n : Nat) (hn : n < 34359738368) : vR (BA (A ++ (Pl.varint n ++ C))) A.length false = (n, A.length + (Pl.varint n).length, false) := by
  have h := vGo_of C 9 A n 5 0 1 (by omega) (by omega) (by omega)
  unfold vR
  simpa [Pl.varint] using h
theorem partR_of (A C x : List UInt8) : partR (BA (A ++ (x ++ C))) A.length false x.length = (BA x, A.length + x.length, false) := by
  unfold partR
  rw [if_neg (by rw [BA_size, List.length_append, List.length_append]; simp; omega), Int.toNat_natCast]
  have e : (BA (A ++ (x ++ C))).extract A.length (A.length + x.length) = BA x := by
    apply ByteArray.ext
    rw [ByteArray.data_extract]
    simp [BA]
  rw [e]
theorem tQ_of (C : List UInt8) : ∀ (t : List ByteArray) (A : List UInt8), (∀ x ∈ t, x.size ≤ 16) → tQ (BA (A ++ (textsBytes t ++ C))) t.length A.length false = (t, (A ++ textsBytes t).length, false) := by
  intro t
  induction t with
  | nil => intro A _; simp [tQ, textsBytes]
  | cons x r ih =>
    intro A h
    have hx := h x (by simp)
    have hsz : x.data.toList.length = x.size := by simp
    have e1 : A ++ (textsBytes (x :: r) ++ C) = A ++ (Pl.varint x.size ++ (x.data.toList ++ (textsBytes r ++ C))) := by simp [textsBytes]
    have e2 : A ++ (textsBytes (x :: r) ++ C) = (A ++ Pl.varint x.size) ++ (x.data.toList ++ (textsBytes r ++ C)) := by simp [textsBytes]
    have e3 : A ++ (textsBytes (x :: r) ++ C) = (A ++ Pl.varint x.size ++ x.data.toList) ++ (textsBytes r ++ C) := by simp [textsBytes]
    have v1 := vR_of A (x.data.toList ++ (textsBytes r ++ C)) x.size (by omega)
    rw [← e1] at v1
    have p1 := partR_of (A ++ Pl.varint x.size) (textsBytes r ++ C) x.data.toList
    rw [← e2, List.length_append, hsz, BA_of] at p1
    have i1 := ih (A ++ Pl.varint x.size ++ x.data.toList) (fun y hy => h y (by simp [hy]))
    rw [← e3, List.length_append, List.length_append, hsz] at i1
    rw [List.length_cons, tQ, if_neg (by decide), v1]
    simp only
    rw [p1]
    simp only
    rw [i1]
    simp [textsBytes]
theorem lQ_of (t : List ByteArray) (hl : t.length ≤ 1000) (C : List UInt8) : ∀ (l : List Lab) (A : List UInt8), (∀ x ∈ l, t[placeOf t x.1]? = some x.1 ∧ t[placeOf t x.2]? = some x.2) → lQ (BA (A ++ (labelsBytes t l ++ C))) t l.length A.length false = some (l, (A ++ labelsBytes t l).length) := by
  intro l
  induction l with
  | nil => intro A _; simp [lQ, labelsBytes]
  | cons x r ih =>
    intro A h
    obtain ⟨h1, h2⟩ := h x (by simp)
    have k1 := (List.getElem?_eq_some_iff.1 h1).1
    have k2 := (List.getElem?_eq_some_iff.1 h2).1
    have e1 : A ++ (labelsBytes t (x :: r) ++ C) = A ++ (Pl.varint (placeOf t x.1) ++ (Pl.varint (placeOf t x.2) ++ (labelsBytes t r ++ C))) := by simp [labelsBytes]
    have e2 : A ++ (labelsBytes t (x :: r) ++ C) = (A ++ Pl.varint (placeOf t x.1)) ++ (Pl.varint (placeOf t x.2) ++ (labelsBytes t r ++ C)) := by simp [labelsBytes]
    have e3 : A ++ (labelsBytes t (x :: r) ++ C) = (A ++ Pl.varint (placeOf t x.1) ++ Pl.varint (placeOf t x.2)) ++ (labelsBytes t r ++ C) := by simp [labelsBytes]
    have v1 := vR_of A (Pl.varint (placeOf t x.2) ++ (labelsBytes t r ++ C)) (placeOf t x.1) (by omega)
    rw [← e1] at v1
    have v2 := vR_of (A ++ Pl.varint (placeOf t x.1)) (labelsBytes t r ++ C) (placeOf t x.2) (by omega)
    rw [← e2, List.length_append] at v2
    have i1 := ih (A ++ Pl.varint (placeOf t x.1) ++ Pl.varint (placeOf t x.2)) (fun y hy => h y (by simp [hy]))
    rw [← e3, List.length_append, List.length_append] at i1
    rw [List.length_cons, lQ, if_neg (by decide), v1]
    simp only
    rw [v2]
    simp only
    rw [if_neg (by omega), i1]
    simp [labelsBytes, List.getD_eq_getElem?_getD, h1, h2]
theorem serQ_of (t : List ByteArray) (s : Ser) (A D : List UInt8) (h : ∀ x ∈ s.1, t[placeOf t x.1]? = some x.1 ∧ t[placeOf t x.2]? = some x.2) (hl : t.length ≤ 1000) (h4 : s.1.length ≤ 4) (h0 : s.2 ≠ []) (h40 : s.2.length ≤ 40)
    (hwf : ∀ y ∈ s.2, -9223372036854775808 ≤ y.1 ∧ y.1 ≤ 9223372036854775807 ∧ y.2 ≤ 18446744073709551615) : serQ (BA (A ++ (seriesBytes t s.1 s.2 ++ D))) t A.length = some (s, (A ++ seriesBytes t s.1 s.2).length) := by
  obtain ⟨l, m⟩ := s
  cases m with
  | nil => exact absurd rfl h0
  | cons x r =>
    have hlen := chunkBytes_len (x :: r) (by simp at h40; simp; omega)
    have hlen' : (chunkBytes (x :: r)).length ≤ 6000 := hlen
    simp only at h h4 h40 hwf ⊢
    have e1 : A ++ (seriesBytes t l (x :: r) ++ D) = A ++ (Pl.varint l.length ++ (labelsBytes t l ++ (Pl.varint (x :: r).length ++ (Pl.varint (chunkBytes (x :: r)).length ++ (chunkBytes (x :: r) ++ D))))) := by simp [seriesBytes]
    have v1 := vR_of A (labelsBytes t l ++ (Pl.varint (x :: r).length ++ (Pl.varint (chunkBytes (x :: r)).length ++ (chunkBytes (x :: r) ++ D)))) l.length (by omega)
    rw [← e1] at v1
    have e2 : A ++ (seriesBytes t l (x :: r) ++ D) = (A ++ Pl.varint l.length) ++ (labelsBytes t l ++ (Pl.varint (x :: r).length ++ (Pl.varint (chunkBytes (x :: r)).length ++ (chunkBytes (x :: r) ++ D)))) := by simp [seriesBytes]
    have l1 := lQ_of t hl (Pl.varint (x :: r).length ++ (Pl.varint (chunkBytes (x :: r)).length ++ (chunkBytes (x :: r) ++ D))) l (A ++ Pl.varint l.length) h
    rw [← e2, List.length_append] at l1
    have e3 : A ++ (seriesBytes t l (x :: r) ++ D) = (A ++ Pl.varint l.length ++ labelsBytes t l) ++ (Pl.varint (x :: r).length ++ (Pl.varint (chunkBytes (x :: r)).length ++ (chunkBytes (x :: r) ++ D))) := by simp [seriesBytes]
    have v2 := vR_of (A ++ Pl.varint l.length ++ labelsBytes t l) (Pl.varint (chunkBytes (x :: r)).length ++ (chunkBytes (x :: r) ++ D)) (x :: r).length (by omega)
    rw [← e3] at v2
    have e4 : A ++ (seriesBytes t l (x :: r) ++ D) = (A ++ Pl.varint l.length ++ labelsBytes t l ++ Pl.varint (x :: r).length) ++ (Pl.varint (chunkBytes (x :: r)).length ++ (chunkBytes (x :: r) ++ D)) := by simp [seriesBytes]
    have v3 := vR_of (A ++ Pl.varint l.length ++ labelsBytes t l ++ Pl.varint (x :: r).length) (chunkBytes (x :: r) ++ D) (chunkBytes (x :: r)).length (by omega)
    have L1 : (A ++ Pl.varint l.length ++ labelsBytes t l ++ Pl.varint (x :: r).length).length = (A ++ Pl.varint l.length ++ labelsBytes t l).length + (Pl.varint (x :: r).length).length := List.length_append
    rw [← e4, L1] at v3
    have e5 : A ++ (seriesBytes t l (x :: r) ++ D) = (A ++ Pl.varint l.length ++ labelsBytes t l ++ Pl.varint (x :: r).length ++ Pl.varint (chunkBytes (x :: r)).length) ++ (chunkBytes (x :: r) ++ D) := by simp [seriesBytes]
    have p1 := partR_of (A ++ Pl.varint l.length ++ labelsBytes t l ++ Pl.varint (x :: r).length ++ Pl.varint (chunkBytes (x :: r)).length) D (chunkBytes (x :: r))
    have L2 : (A ++ Pl.varint l.length ++ labelsBytes t l ++ Pl.varint (x :: r).length ++ Pl.varint (chunkBytes (x :: r)).length).length = (A ++ Pl.varint l.length ++ labelsBytes t l).length + (Pl.varint (x :: r).length).length + (Pl.varint (chunkBytes (x :: r)).length).length := by rw [List.length_append, L1]
    rw [← e5, L2] at p1
    have s1 : samplesQ (BA (chunkBytes (x :: r))) (x :: r).length = some (x :: r) := samplesQ_of x r h40 hwf
    have m1 : mQ (BA (A ++ (seriesBytes t l (x :: r) ++ D))) (A ++ Pl.varint l.length ++ labelsBytes t l).length false = some (x :: r, (A ++ seriesBytes t l (x :: r)).length) := by
      unfold mQ
      rw [v2]
      simp only
      rw [v3]
      simp only
      rw [p1]
      simp only
      rw [s1]
      simp [seriesBytes]
      omega
    unfold serQ
    rw [v1, if_neg (by simp only; omega)]
    simp only
    rw [l1]
    simp only
    rw [m1]
    rfl
theorem gQ_of (t : List ByteArray) (hl : t.length ≤ 1000) : ∀ (bs : List Ser) (A : List UInt8), (∀ s ∈ bs, (∀ x ∈ s.1, t[placeOf t x.1]? = some x.1 ∧ t[placeOf t x.2]? = some x.2) ∧ s.1.length ≤ 4 ∧ s.2 ≠ [] ∧ s.2.length ≤ 40 ∧ ∀ y ∈ s.2, -9223372036854775808 ≤ y.1 ∧ y.1 ≤ 9223372036854775807 ∧ y.2 ≤ 18446744073709551615) →
    gQ (BA (A ++ seriesAll t bs)) t bs.length A.length = some bs := by
  intro bs
  induction bs with
  | nil => intro A _; rfl
  | cons s r ih =>
    intro A h
    obtain ⟨h1, h2, h3, h4, h5⟩ := h s (by simp)
    have e1 : A ++ seriesAll t (s :: r) = A ++ (seriesBytes t s.1 s.2 ++ seriesAll t r) := by simp [seriesAll]
    have e2 : A ++ seriesAll t (s :: r) = (A ++ seriesBytes t s.1 s.2) ++ seriesAll t r := by simp [seriesAll]
    have s1 := serQ_of t s A (seriesAll t r) h1 hl h2 h3 h4 h5
    rw [← e1] at s1
    have i1 := ih (A ++ seriesBytes t s.1 s.2) (fun y hy => h y (by simp [hy]))
    rw [← e2] at i1
    rw [List.length_cons, gQ, s1]
    simp only
    rw [i1]
    rfl
/-- What is packed is read by the reference too. -/
theorem decQ_of (bs : List Ser) (h1 : BatchOk bs) (h2 : LimitsOk bs) (hr : InRange bs) : decQ (BA (headOf (payload bs))) = some bs := by
  have hF := fits_of h1 h2
  have hsm := allTexts_small bs hF
  have hts := texts_sorted (allTexts bs)
  have hlen := sortedTexts_len (allTexts bs)
  have hin : ∀ s ∈ bs, ∀ x ∈ s.1, (sortedTexts (allTexts bs))[placeOf (sortedTexts (allTexts bs)) x.1]? = some x.1 ∧ (sortedTexts (allTexts bs))[placeOf (sortedTexts (allTexts bs)) x.2]? = some x.2 := fun s hs x hx => by
    have m : ∀ y, y = x.1 ∨ y = x.2 → y ∈ allTexts bs := fun y hy => by
      refine List.mem_flatMap.2 ⟨s, hs, List.mem_flatMap.2 ⟨x, hx, ?_⟩⟩
      rcases hy with rfl | rfl <;> simp
    exact ⟨place_of _ hts.1 _ (hts.2 _ (m _ (.inl rfl))), place_of _ hts.1 _ (hts.2 _ (m _ (.inr rfl)))⟩
  have h16 : ∀ x ∈ sortedTexts (allTexts bs), x.size ≤ 16 := fun x hx => hsm.2 x (sortedTexts_mem hx)
  have hl64 : (sortedTexts (allTexts bs)).length ≤ 64 := by omega
  have hs8 := hF.series
  have hA : ([67, 72, 1] ++ be32 (payload bs).length).length = 7 := rfl
  unfold headOf
  generalize [67, 72, 1] ++ be32 (payload bs).length = A at *
  unfold payload
  generalize sortedTexts (allTexts bs) = t at *
  have e1 : A ++ (Pl.varint t.length ++ textsBytes t ++ Pl.varint bs.length ++ seriesAll t bs) = A ++ (Pl.varint t.length ++ (textsBytes t ++ (Pl.varint bs.length ++ seriesAll t bs))) := by simp
  have e2 : A ++ (Pl.varint t.length ++ (textsBytes t ++ (Pl.varint bs.length ++ seriesAll t bs))) = (A ++ Pl.varint t.length) ++ (textsBytes t ++ (Pl.varint bs.length ++ seriesAll t bs)) := by simp
  have e3 : A ++ (Pl.varint t.length ++ (textsBytes t ++ (Pl.varint bs.length ++ seriesAll t bs))) = (A ++ Pl.varint t.length ++ textsBytes t) ++ (Pl.varint bs.length ++ seriesAll t bs) := by simp
  have e4 : A ++ (Pl.varint t.length ++ (textsBytes t ++ (Pl.varint bs.length ++ seriesAll t bs))) = (A ++ Pl.varint t.length ++ textsBytes t ++ Pl.varint bs.length) ++ seriesAll t bs := by simp
  have v1 := vR_of A (textsBytes t ++ (Pl.varint bs.length ++ seriesAll t bs)) t.length (by omega)
  rw [hA] at v1
  have t1 := tQ_of (Pl.varint bs.length ++ seriesAll t bs) t (A ++ Pl.varint t.length) h16
  rw [← e2, List.length_append, hA] at t1
  have v2 := vR_of (A ++ Pl.varint t.length ++ textsBytes t) (seriesAll t bs) bs.length (by omega)
  rw [← e3] at v2
  have g1 := gQ_of t (by omega) bs (A ++ Pl.varint t.length ++ textsBytes t ++ Pl.varint bs.length) fun s hs => ⟨hin s hs, hF.labels s hs, (hF.samples s hs).1, (hF.samples s hs).2, hr s hs⟩
  have L1 : (A ++ Pl.varint t.length ++ textsBytes t ++ Pl.varint bs.length).length = (A ++ Pl.varint t.length ++ textsBytes t).length + (Pl.varint bs.length).length := List.length_append
  rw [← e4, L1] at g1
  rw [e1]
  unfold decQ
  simp only
  rw [v1]
  simp only
  rw [t1]
  simp only
  rw [v2]
  simp only
  rw [if_neg (by rintro (h | h); cases h; omega), g1]
end Go.Proofs.YtamcclcbmenjdaaGreatDoor

/- The reference: less, Order, Within. -/
namespace Go.Proofs.YtamcclcbmenjdaaGreatDoor
open Go.RowKit Go.Lib

theorem bl_cmp : ∀ (x y : List UInt8), (Op.bytesLess x y = true ↔ Lib.compareBytes x y = -1) ∧ (x = y ↔ Lib.compareBytes x y = 0) ∧ (Lib.compareBytes x y = -1 ∨ Lib.compareBytes x y = 0 ∨ Lib.compareBytes x y = 1) ∧ Lib.compareBytes y x = - Lib.compareBytes x y
  | [], [] => by simp [Op.bytesLess, Lib.compareBytes]
  | [], _ :: _ => by simp [Op.bytesLess, Lib.compareBytes]
  | _ :: _, [] => by simp [Op.bytesLess, Lib.compareBytes]
  | a :: r, b :: q => by
    have ih := bl_cmp r q
    by_cases hab : a = b
    · subst hab
      simpa [Op.bytesLess, Lib.compareBytes] using ih
    · by_cases hlt : a < b
      · have hlt2 : ¬ b < a := fun h => absurd (UInt8.lt_trans hlt h) (UInt8.lt_irrefl _)
        simp [Op.bytesLess, Lib.compareBytes, hab, hlt, hlt2]
      · have hlt2 : b < a := by rcases UInt8.lt_or_lt_of_ne hab with h | h; exact absurd h hlt; exact h
        simp [Op.bytesLess, Lib.compareBytes, hab, hlt, hlt2]

/-- Is a label ahead of another? -/
def lessLab (x y : Lab) : Bool := Op.bytesLess x.1.toList y.1.toList || (x.1.toList == y.1.toList && Op.bytesLess x.2.toList y.2.toList)

theorem toList_data (a : ByteArray) : a.toList = a.data.toList := ByteArray.toList_eq a
theorem lessLab_cmp (x y : Lab) : (lessLab x y = true ↔ cmpLab x y = -1) ∧ (lessLab y x = true ↔ cmpLab x y = 1) ∧ (cmpLab x y = -1 ∨ cmpLab x y = 0 ∨ cmpLab x y = 1) := by
  have h1 := bl_cmp x.1.data.toList y.1.data.toList
  have h2 := bl_cmp x.2.data.toList y.2.data.toList
  have h3 := bl_cmp y.1.data.toList x.1.data.toList
  have h4 := bl_cmp y.2.data.toList x.2.data.toList
  unfold lessLab cmpLab cmpB
  simp only [toList_data, Bool.or_eq_true, Bool.and_eq_true, beq_iff_eq, h1.1, h2.1, h3.1, h4.1]
  rw [h1.2.1, h3.2.1, h1.2.2.2, h2.2.2.2]
  have a1 := h1.2.2.1
  have a2 := h2.2.2.1
  generalize Lib.compareBytes x.1.data.toList y.1.data.toList = p at *
  generalize Lib.compareBytes x.2.data.toList y.2.data.toList = q at *
  clear h1 h2 h3 h4
  split <;> omega

set_option maxRecDepth 100000 in
set_option maxHeartbeats 400000 in
theorem less_any (x y : Lab) (w : World) :
    Calls Tryz.prog 104 #[.agg #[.string x.1, .string x.2], .agg #[.string y.1, .string y.2]] w fun e w' => e = .returned (.bool (lessLab x y)) ∧ Below w.heap.size w w' := by
  obtain ⟨a, b⟩ := x
  obtain ⟨c, d⟩ := y
  have HL : Hid (lessLab (a, b) (c, d) = (Op.bytesLess a.toList c.toList || (a.toList == c.toList && Op.bytesLess b.toList d.toList))) := rfl
  cases h1 : Op.bytesLess a.toList c.toList with
  | true =>
    go_enter Tryz.func104, Tryz.ntmps104
    go_wp2
    go_ret
    exact ⟨by rw [HL.out, h1]; rfl, (((Below.refl _ _).alloc (Nat.le_refl _) _).alloc (by simp) _)⟩
  | false =>
    cases h2 : a.toList == c.toList with
    | true =>
      go_enter Tryz.func104, Tryz.ntmps104
      go_wp2
      go_ret
      exact ⟨by rw [HL.out, h1, h2]; rfl, (((Below.refl _ _).alloc (Nat.le_refl _) _).alloc (by simp) _)⟩
    | false =>
      go_enter Tryz.func104, Tryz.ntmps104
      go_wp2
      go_ret
      exact ⟨by rw [HL.out, h1, h2]; rfl, (((Below.refl _ _).alloc (Nat.le_refl _) _).alloc (by simp) _)⟩

set_option maxRecDepth 100000 in
set_option maxHeartbeats 400000 in
theorem refOrder_any (B : Nat) (u v : Value) (l m : List Lab) (w : World) (hl : LabelsAt w B u l) (hm : LabelsAt w B v m) (hB : B ≤ w.heap.size) (hll : l.length ≤ 10000000000000) :
    Calls Tryz.prog 74 #[u, v] w fun e w' => e = .returned (.int .i64 (cmpLabs l m)) ∧ Below w.heap.size w w' := by
  obtain ⟨la, lc, rfl, _⟩ := id hl
  obtain ⟨ma, mc, rfl, _⟩ := id hm
  have HL := hide hl
  have HM := hide hm
  clear hl hm
  go_enter Tryz.func74, Tryz.ntmps74
  go_wp2
  go_loopw [5, 6, 7] (fun i _ _ wr => ∃ k : Nat, k ≤ l.length ∧ k ≤ m.length ∧ i = .int .i64 k ∧ Below w.heap.size w wr ∧ Hid (cmpLabs l m = cmpLabs (l.drop k) (m.drop k))) (fun i _ _ _ => l.length - (intOf i).toNat)
  case atStart => exact ⟨0, Nat.zero_le _, Nat.zero_le _, rfl, Below.refl _ _, rfl⟩
  case round =>
    obtain ⟨k, hk, hkm, rfl, hbl, HE⟩ := hrel
    have hsz := hbl.size
    have HBl := hide hbl
    clear hbl
    by_cases hlt : k < l.length
    · by_cases hltm : k < m.length
      · obtain ⟨x, hx⟩ : ∃ x, l[k]? = some x := ⟨_, List.getElem?_eq_getElem hlt⟩
        obtain ⟨b, o, rfl, hb, c1, c2⟩ := (HL.out.below HBl.out hB).get hx
        have hbw : b < wr.heap.size := by omega
        obtain ⟨y, hy⟩ : ∃ y, m[k]? = some y := ⟨_, List.getElem?_eq_getElem hltm⟩
        obtain ⟨b', o', rfl, hb', d1, d2⟩ := (HM.out.below HBl.out hB).get hy
        have hbw' : b' < wr.heap.size := by omega
        have HD := hide (cmpLabs_drop hx hy)
        have HC := hide (lessLab_cmp x y)
        obtain ⟨x1, x2⟩ := x
        obtain ⟨y1, y2⟩ := y
        have C1 := hide (less_any (x1, x2) (y1, y2))
        have C2 := hide (less_any (y1, y2) (x1, x2))
        clear hx hy
        have hsz2 := hsz
        generalize hq : cmpLab (x1, x2) (y1, y2) = q at *
        generalize hp1 : lessLab (x1, x2) (y1, y2) = p1 at *
        generalize hp2 : lessLab (y1, y2) (x1, x2) = p2 at *
        clear hq hp1 hp2
        go_wp2
        as_aux_lemma =>
          go_region_held3 (fun w' => w'.cell? ⟨b, o + k * 2, none⟩ = some (.string x1) ∧ w'.cell? ⟨b, o + k * 2 + 1, none⟩ = some (.string x2) ∧ w'.cell? ⟨b', o' + k * 2, none⟩ = some (.string y1) ∧ w'.cell? ⟨b', o' + k * 2 + 1, none⟩ = some (.string y2)) (go_keep) (first | (go_at_call 104; refine (C1.out _).mono ?_; rintro e w2 ⟨rfl, hb2⟩; have e1 := (Below.cell hb2 (p := ⟨b, o + k * 2, none⟩) (by show b < wr.heap.size; omega)).trans c1; have e2 := (Below.cell hb2 (p := ⟨b, o + k * 2 + 1, none⟩) (by show b < wr.heap.size; omega)).trans c2; have e3 := (Below.cell hb2 (p := ⟨b', o' + k * 2, none⟩) (by show b' < wr.heap.size; omega)).trans d1; have e4 := (Below.cell hb2 (p := ⟨b', o' + k * 2 + 1, none⟩) (by show b' < wr.heap.size; omega)).trans d2))
          all_goals
            have HB2 := hide (HBl.out.drew.trans (hb2.mono (by show w.heap.size ≤ wr.heap.size; omega)))
            have hs2 : wr.heap.size ≤ w2.heap.size := hb2.size
            clear hb2 c1 c2 d1 d2 HBl
            go_wp2
            as_aux_lemma =>
              go_region_held3 (fun w' => w'.cell? ⟨b, o + k * 2, none⟩ = some (.string x1) ∧ w'.cell? ⟨b, o + k * 2 + 1, none⟩ = some (.string x2) ∧ w'.cell? ⟨b', o' + k * 2, none⟩ = some (.string y1) ∧ w'.cell? ⟨b', o' + k * 2 + 1, none⟩ = some (.string y2)) (go_keep) (first | (go_at_call 104; refine (C2.out _).mono ?_; rintro e w3 ⟨rfl, hb3⟩; have g1 := (Below.cell hb3 (p := ⟨b, o + k * 2, none⟩) (by show b < w2.heap.size; omega)).trans e1; have g2 := (Below.cell hb3 (p := ⟨b, o + k * 2 + 1, none⟩) (by show b < w2.heap.size; omega)).trans e2; have g3 := (Below.cell hb3 (p := ⟨b', o' + k * 2, none⟩) (by show b' < w2.heap.size; omega)).trans e3; have g4 := (Below.cell hb3 (p := ⟨b', o' + k * 2 + 1, none⟩) (by show b' < w2.heap.size; omega)).trans e4))
              all_goals
                have HB3 := hide (HB2.out.drew.trans (hb3.mono (by show w.heap.size ≤ w2.heap.size; omega)))
                clear hb3 e1 e2 e3 e4 g1 g2 g3 g4 HB2
                cases p1 with
                | true =>
                  have hq : q = -1 := HC.out.1.1 rfl
                  have HQ : Hid (cmpLabs l m = -1) := by show _ = _; rw [HE.out, HD.out, hq]; rfl
                  clear hq HC HD HE
                  go_wp2
                  go_ret
                  exact ⟨ret_int HQ.out.symm, HB3.out⟩
                | false =>
                  cases p2 with
                  | true =>
                    have hq : q = 1 := HC.out.2.1.1 rfl
                    have HQ : Hid (cmpLabs l m = 1) := by show _ = _; rw [HE.out, HD.out, hq]; rfl
                    clear hq HC HD HE
                    go_wp2
                    go_ret
                    exact ⟨ret_int HQ.out.symm, HB3.out⟩
                  | false =>
                    have hq : q = 0 := by
                      rcases HC.out.2.2 with h | h | h
                      · cases HC.out.1.2 h
                      · exact h
                      · cases HC.out.2.1.2 h
                    have HQ : Hid (cmpLabs l m = cmpLabs (l.drop (k + 1)) (m.drop (k + 1))) := by show _ = _; rw [HE.out, HD.out, hq]; rfl
                    clear hq HC HD HE
                    go_wp2
                    go_roundw
                    case rel => exact ⟨k + 1, by omega, by omega, by go_num, HB3.out, HQ.out⟩
                    case measure => simp [intOf]; omega
      · obtain ⟨x, hx⟩ : ∃ x, l[k]? = some x := ⟨_, List.getElem?_eq_getElem hlt⟩
        have hend : cmpLabs l m = 1 := HE.out.trans (cmpLabs_end1 (by omega) hx)
        have HEnd := hide hend
        clear hx hend HE
        have h1 : ¬ l.length < m.length := by omega
        have h2 : m.length < l.length := by omega
        go_wp2
        go_ret
        exact ⟨ret_int HEnd.out.symm, HBl.out⟩
    · have hend : cmpLabs l m = if l.length < m.length then -1 else 0 := HE.out.trans (cmpLabs_end2 (by omega) (by omega))
      have HEnd := hide hend
      clear hend
      by_cases hlm2 : l.length < m.length
      · rw [if_pos hlm2] at HEnd
        go_wp2
        go_ret
        exact ⟨ret_int HEnd.out.symm, HBl.out⟩
      · rw [if_neg hlm2] at HEnd
        have h2 : ¬ m.length < l.length := by omega
        go_wp2
        go_ret
        exact ⟨ret_int HEnd.out.symm, HBl.out⟩

set_option maxRecDepth 100000 in
set_option maxHeartbeats 400000 in
theorem refWithin_any (B : Nat) (v : Value) (bs : List Ser) (w : World) (hS : BatchAt w B v bs) (hB : B ≤ w.heap.size) (hll : bs.length ≤ 10000000000000) :
    Calls Tryz.prog 50 #[v] w fun e w' => BoolOf e (LimitsOk bs) ∧ Below w.heap.size w w' := by
  obtain ⟨a, c, rfl, _⟩ := id hS
  have HS := hide hS
  clear hS
  by_cases h8 : 8 < bs.length
  · go_enter Tryz.func50, Tryz.ntmps50
    go_wp2
    go_ret
    exact ⟨BoolOf.no (fun h => by have := h.2; omega), Below.refl _ _⟩
  · go_enter Tryz.func50, Tryz.ntmps50
    go_wp2
    go_loopw [3] (fun i wr => ∃ k : Nat, k ≤ bs.length ∧ i = .int .i64 k ∧ Below w.heap.size w wr ∧ Hid (LimTo bs k)) (fun i _ => bs.length - (intOf i).toNat)
    case atStart => exact ⟨0, Nat.zero_le _, rfl, Below.refl _ _, fun i x h => by omega⟩
    case round =>
      obtain ⟨k, hk, rfl, hbl, HR⟩ := hrel
      have hsz := hbl.size
      have HBl := hide hbl
      clear hbl
      by_cases hlt : k < bs.length
      · obtain ⟨⟨y1, y2⟩, hy⟩ : ∃ y, bs[k]? = some y := ⟨_, List.getElem?_eq_getElem hlt⟩
        obtain ⟨b, o, la, lc, sa, sc, rfl, hb, c1, c2, _, _⟩ := (HS.out.below HBl.out hB).get hy
        have hbw : b < wr.heap.size := by omega
        have HY := hide hy
        clear hy
        simp only at c1 c2
        by_cases h1 : 4 < y1.length
        · have hno : ¬ LimitsOk bs := fun h => by have h2 : y1.length ≤ 4 := (h.1 k _ hlt HY.out).1; omega
          have HNo := hide hno
          clear hno HR HY
          go_wp2
          go_ret
          exact ⟨BoolOf.no HNo.out, HBl.out⟩
        · by_cases h2 : 40 < y2.length
          · have hno : ¬ LimitsOk bs := fun h => by have h2 : y2.length ≤ 40 := (h.1 k _ hlt HY.out).2; omega
            have HNo := hide hno
            clear hno HR HY
            go_wp2
            go_ret
            exact ⟨BoolOf.no HNo.out, HBl.out⟩
          · go_wp2
            go_roundw
            case rel => exact ⟨k + 1, by omega, by go_num, HBl.out, HR.out.succ HY.out (by show y1.length ≤ 4; omega) (by show y2.length ≤ 40; omega)⟩
            case measure => simp [intOf]; omega
      · have hke : k = bs.length := by omega
        have HY : Hid (LimTo bs bs.length) := by show LimTo bs bs.length; rw [← hke]; exact HR.out
        clear hke
        go_wp2
        go_ret
        exact ⟨BoolOf.yes ⟨HY.out, by omega⟩, HBl.out⟩
end Go.Proofs.YtamcclcbmenjdaaGreatDoor

/- A heap, pure: what container/heap's loops keep. -/
namespace Go.Proofs.YtamcclcbmenjdaaGreatDoor.Hp

variable {α : Type}
/-- f with the places i and j turned round. -/
def swp (f : Nat → α) (i j : Nat) : Nat → α := fun k => if k = i then f j else if k = j then f i else f k
def IsHeap (le : α → α → Prop) (f : Nat → α) (n : Nat) : Prop := ∀ k, 0 < k → k < n → le (f ((k - 1) / 2)) (f k)
structure UpInv (le : α → α → Prop) (f : Nat → α) (n j : Nat) : Prop where
  rest : ∀ k, 0 < k → k < n → k ≠ j → le (f ((k - 1) / 2)) (f k)
  over : 0 < j → ∀ k, 0 < k → k < n → (k - 1) / 2 = j → le (f ((j - 1) / 2)) (f k)
structure DownInv (le : α → α → Prop) (f : Nat → α) (n i : Nat) : Prop where
  rest : ∀ k, 0 < k → k < n → (k - 1) / 2 ≠ i → le (f ((k - 1) / 2)) (f k)
  over : 0 < i → ∀ k, 0 < k → k < n → (k - 1) / 2 = i → le (f ((i - 1) / 2)) (f k)

theorem up_start {le : α → α → Prop} {f g : Nat → α} {n : Nat} (h : IsHeap le f n) (hg : ∀ k, k < n → g k = f k) : UpInv le g (n + 1) n := by
  refine ⟨fun k h0 hk hne => ?_, fun h0 k hk0 hk he => by omega⟩
  rw [hg _ (by omega), hg _ (by omega)]; exact h k h0 (by omega)
theorem up_step {le : α → α → Prop} (tot : ∀ a b, le a b ∨ le b a) (tr : ∀ {a b c}, le a b → le b c → le a c) {f : Nat → α} {n j : Nat} (h : UpInv le f n j) (hj : j < n) (h0 : 0 < j) (hlt : ¬ le (f ((j - 1) / 2)) (f j)) : UpInv le (swp f ((j - 1) / 2) j) n ((j - 1) / 2) := by
  have hle : le (f j) (f ((j - 1) / 2)) := (tot _ _).resolve_right hlt
  refine ⟨fun k hk0 hk hne => ?_, fun hp0 k hk0 hk he => ?_⟩
  · unfold swp
    by_cases e1 : k = j
    · subst e1
      rw [if_pos rfl, if_neg (by omega), if_pos rfl]; exact hle
    · rw [if_neg hne, if_neg e1]
      by_cases e2 : (k - 1) / 2 = (j - 1) / 2
      · rw [if_pos e2]
        have := h.rest k hk0 hk e1
        rw [e2] at this
        exact tr hle this
      · rw [if_neg e2]
        by_cases e3 : (k - 1) / 2 = j
        · rw [if_pos e3]; exact h.over h0 k hk0 hk e3
        · rw [if_neg e3]; exact h.rest k hk0 hk e1
  · unfold swp
    rw [if_neg (by omega), if_neg (by omega)]
    have hpp := h.rest ((j - 1) / 2) hp0 (by omega) (by omega)
    rw [if_neg (by omega)]
    by_cases e1 : k = j
    · rw [if_pos e1]; exact hpp
    · rw [if_neg e1]
      have := h.rest k hk0 hk e1
      rw [he] at this
      exact tr hpp this
theorem up_done {le : α → α → Prop} {f : Nat → α} {n j : Nat} (h : UpInv le f n j) (hd : j = 0 ∨ le (f ((j - 1) / 2)) (f j)) : IsHeap le f n := fun k h0 hk => by
  by_cases e : k = j
  · subst e
    rcases hd with hd | hd
    · omega
    · exact hd
  · exact h.rest k h0 hk e
theorem down_start {le : α → α → Prop} {f g : Nat → α} {n : Nat} (h : IsHeap le f (n + 1)) (hg : ∀ k, 0 < k → k < n → g k = f k) : DownInv le g n 0 := by
  refine ⟨fun k h0 hk hne => ?_, fun h0 => by omega⟩
  rw [hg _ (by omega) (by omega), hg _ (by omega) (by omega)]; exact h k h0 (by omega)
theorem down_step {le : α → α → Prop} (tot : ∀ a b, le a b ∨ le b a) {f : Nat → α} {n i c : Nat} (h : DownInv le f n i) (hc : c = 2 * i + 1 ∨ c = 2 * i + 2) (hcn : c < n) (hmin : ∀ d, d < n → (d = 2 * i + 1 ∨ d = 2 * i + 2) → le (f c) (f d)) (hlt : ¬ le (f i) (f c)) : DownInv le (swp f i c) n c := by
  have hle : le (f c) (f i) := (tot _ _).resolve_right hlt
  refine ⟨fun k hk0 hk hne => ?_, fun hp0 k hk0 hk he => ?_⟩
  · unfold swp
    by_cases e1 : (k - 1) / 2 = i
    · rw [if_pos e1]
      by_cases e2 : k = c
      · subst e2
        rw [if_neg (by omega), if_pos rfl]; exact hle
      · rw [if_neg (by omega), if_neg e2]
        exact hmin k hk (by omega)
    · rw [if_neg e1, if_neg (by omega)]
      by_cases e2 : k = i
      · subst e2
        rw [if_pos rfl]
        exact h.over hk0 c (by omega) hcn (by omega)
      · rw [if_neg e2]
        by_cases e3 : k = c
        · omega
        · rw [if_neg e3]; exact h.rest k hk0 hk e1
  · unfold swp
    have e : (c - 1) / 2 = i := by omega
    rw [if_pos e, if_neg (by omega), if_neg (by omega)]
    have := h.rest k hk0 hk (by omega)
    rw [he] at this; exact this
theorem down_done {le : α → α → Prop} {f : Nat → α} {n i : Nat} (h : DownInv le f n i) (hd : ∀ k, k < n → (k = 2 * i + 1 ∨ k = 2 * i + 2) → le (f i) (f k)) : IsHeap le f n := fun k h0 hk => by
  by_cases e : (k - 1) / 2 = i
  · rw [e]; exact hd k hk (by omega)
  · exact h.rest k h0 hk e
theorem heap_min {le : α → α → Prop} (tot : ∀ a b, le a b ∨ le b a) (tr : ∀ {a b c}, le a b → le b c → le a c) {f : Nat → α} {n : Nat} (h : IsHeap le f n) : ∀ k, k < n → le (f 0) (f k) := by
  intro k
  induction k using Nat.strongRecOn with
  | _ k ih =>
    intro hk
    by_cases e : k = 0
    · subst e; exact (tot _ _).elim id id
    · exact tr (ih ((k - 1) / 2) (by omega) (by omega)) (h k (by omega) hk)
/-- A list with two places turned round: it has the same members, as often. -/
theorem set_swap_perm (l : List α) (i j : Nat) (a b : α) (ha : l[i]? = some a) (hb : l[j]? = some b) : ((l.set i b).set j a).Perm l := by
  obtain ⟨hi, e1⟩ := List.getElem?_eq_some_iff.1 ha
  obtain ⟨hj, e2⟩ := List.getElem?_eq_some_iff.1 hb
  have h := Array.swap_perm (xs := l.toArray) (i := i) (j := j) (by simpa using hi) (by simpa using hj)
  have e : (l.toArray.swap i j (by simpa using hi) (by simpa using hj)).toList = (l.set i b).set j a := by
    rw [Array.swap_def]
    simp [e1, e2]
  have h2 := h.toList
  rw [e] at h2
  exact h2
end Go.Proofs.YtamcclcbmenjdaaGreatDoor.Hp

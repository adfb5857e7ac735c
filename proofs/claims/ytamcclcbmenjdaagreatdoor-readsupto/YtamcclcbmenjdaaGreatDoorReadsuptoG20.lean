/- 'choirlaw.Reads', for any list of texts of bulk at most 1048576: Decode answers the document's batch or error, one behind the other; lists that came out are their owner's own. The second form's statement and its card: its only condition is the row's own bound on the argument's bulk. -/
import Derived.Test.YtamcclcbmenjdaaGreatDoorReadsuptoG17
import Derived.Test.YtamcclcbmenjdaaGreatDoorReadsuptoG1
/- What the reference's Decode makes of bytes, as functions; what is packed is read again: pure. -/
namespace Go.Proofs.YtamcclcbmenjdaaGreatDoor

/-- Texts, at most k. -/
def tQ (S : ByteArray) : Nat → Nat → Bool → List ByteArray × Nat × Bool
  | 0, at', bad => ([], at', bad)
  | k + 1, at', bad => if bad = true then ([], at', bad) else
    ((partR S (vR S at' false).2.1 (vR S at' false).2.2 (vR S at' false).1).1 :: (tQ S k (partR S (vR S at' false).2.1 (vR S at' false).2.2 (vR S at' false).1).2.1 (partR S (vR S at' false).2.1 (vR S at' false).2.2 (vR S at' false).1).2.2).1,
      (tQ S k (partR S (vR S at' false).2.1 (vR S at' false).2.2 (vR S at' false).1).2.1 (partR S (vR S at' false).2.1 (vR S at' false).2.2 (vR S at' false).1).2.2).2)
/-- Labels, k of them. -/
def lQ (S : ByteArray) (t : List ByteArray) : Nat → Nat → Bool → Option (List Lab × Nat)
  | 0, at', bad => if bad = true then none else some ([], at')
  | k + 1, at', bad => if bad = true then none else
    if t.length ≤ (vR S at' false).1 ∨ t.length ≤ (vR S (vR S at' false).2.1 (vR S at' false).2.2).1 then none else
    (lQ S t k (vR S (vR S at' false).2.1 (vR S at' false).2.2).2.1 (vR S (vR S at' false).2.1 (vR S at' false).2.2).2.2).map fun r => ((t.getD (vR S at' false).1 ByteArray.empty, t.getD (vR S (vR S at' false).2.1 (vR S at' false).2.2).1 ByteArray.empty) :: r.1, r.2)
/-- The samples of a series. -/
def mQ (S : ByteArray) (at' : Nat) (bad : Bool) : Option (List (Int × Nat) × Nat) :=
  (samplesQ (partR S (vR S (vR S at' bad).2.1 (vR S at' bad).2.2).2.1 (vR S (vR S at' bad).2.1 (vR S at' bad).2.2).2.2 (vR S (vR S at' bad).2.1 (vR S at' bad).2.2).1).1 (vR S at' bad).1).map fun l => (l, (partR S (vR S (vR S at' bad).2.1 (vR S at' bad).2.2).2.1 (vR S (vR S at' bad).2.1 (vR S at' bad).2.2).2.2 (vR S (vR S at' bad).2.1 (vR S at' bad).2.2).1).2.1)
def serQ (S : ByteArray) (t : List ByteArray) (at' : Nat) : Option (Ser × Nat) :=
  if 4 < (vR S at' false).1 then none else
  match lQ S t (vR S at' false).1 (vR S at' false).2.1 (vR S at' false).2.2 with
  | none => none
  | some (l, a1) => (mQ S a1 false).map fun r => ((l, r.1), r.2)
/-- Series, k of them. -/
def gQ (S : ByteArray) (t : List ByteArray) : Nat → Nat → Option (List Ser)
  | 0, _ => some []
  | k + 1, at' => match serQ S t at' with
    | none => none
    | some (s, a1) => (gQ S t k a1).map (s :: ·)
/-- All that stands behind the seventh byte. -/
def decQ (S : ByteArray) : Option (List Ser) :=
  let n := vR S 7 false
  let t := tQ S n.1 n.2.1 n.2.2
  let m := vR S t.2.1 t.2.2
  if m.2.2 = true ∨ 8 < m.1 then none else gQ S t.1 m.1 m.2.1

theorem byteAt_BA (A l : List UInt8) (j : Nat) : byteAt (BA (A ++ l)) (A.length + j) = (l.getD j 0).toNat := by
  unfold byteAt
  rw [BA_list, List.getD_eq_getElem?_getD, List.getElem?_append_right (by omega), Nat.add_sub_cancel_left, ← List.getD_eq_getElem?_getD]
theorem vGo_of (C : List UInt8) (f : Nat) : ∀ (A : List UInt8) (m k n F : Nat), m < 2 ^ (7 * k) → m < 2 ^ (7 * (f + 1)) → 0 < k → vGo (BA (A ++ (Pl.varintF f m ++ C))) k A.length false n F = (n + F * m, A.length + (Pl.varintF f m).length, false) := by
  have hlast : ∀ (A : List UInt8) (m k n F : Nat), m < 128 → 0 < k → vGo (BA (A ++ ([UInt8.ofNat m] ++ C))) k A.length false n F = (n + F * m, A.length + 1, false) := by
    intro A m k n F hm hk
    obtain ⟨k', rfl⟩ : ∃ k', k = k' + 1 := ⟨k - 1, by omega⟩
    have hb : byteAt (BA (A ++ ([UInt8.ofNat m] ++ C))) A.length = m := by
      have := byteAt_BA A ([UInt8.ofNat m] ++ C) 0
      rw [Nat.add_zero] at this
      rw [this]
      show (UInt8.ofNat m).toNat = m
      exact ofNat_toNat m (by omega)
    rw [vGo, hb, if_neg (by rw [BA_size]; simp), if_pos hm, Nat.mod_eq_of_lt hm]
  induction f with
  | zero =>
    intro A m k n F h1 h2 hk
    have hm : m < 128 := by simpa using h2
    have := hlast A m k n F hm hk
    simpa [Pl.varintF] using this
  | succ f ih =>
    intro A m k n F h1 h2 hk
    by_cases hs : m < 128
    · rw [Pl.varintF_small _ _ hs]; exact hlast A m k n F hs hk
    · rw [Pl.varintF_big _ _ hs]
      obtain ⟨k', rfl⟩ : ∃ k', k = k' + 1 := ⟨k - 1, by omega⟩
      have hk' : 0 < k' := by
        rcases Nat.eq_zero_or_pos k' with h | h
        · subst h; simp at h1; omega
        · exact h
      have hb : byteAt (BA (A ++ ((UInt8.ofNat (m % 128 + 128) :: Pl.varintF f (m / 128)) ++ C))) A.length = m % 128 + 128 := by
        have := byteAt_BA A ((UInt8.ofNat (m % 128 + 128) :: Pl.varintF f (m / 128)) ++ C) 0
        exact this.trans (ofNat_toNat _ (by omega))
      have e : A ++ ((UInt8.ofNat (m % 128 + 128) :: Pl.varintF f (m / 128)) ++ C) = (A ++ [UInt8.ofNat (m % 128 + 128)]) ++ (Pl.varintF f (m / 128) ++ C) := by simp
      have h := ih (A ++ [UInt8.ofNat (m % 128 + 128)]) (m / 128) k' (n + F * (m % 128)) (F * 128) (by
        rw [show 7 * (k' + 1) = 7 * k' + 7 by omega, Nat.pow_add] at h1; omega) (by
        rw [show 7 * (f + 1 + 1) = 7 * (f + 1) + 7 by omega, Nat.pow_add] at h2; omega) hk'
      rw [← e, List.length_append, List.length_singleton] at h
      have hmod : (m % 128 + 128) % 128 = m % 128 := by omega
      have hsz : ¬ (BA (A ++ ((UInt8.ofNat (m % 128 + 128) :: Pl.varintF f (m / 128)) ++ C))).size < A.length + 1 := by rw [BA_size]; simp
      have hnum : n + F * (m % 128) + F * 128 * (m / 128) = n + F * m := by
        rw [Nat.mul_assoc, Nat.add_assoc, ← Nat.mul_add]
        congr 2
        omega
      show vGo (BA (A ++ ((UInt8.ofNat (m % 128 + 128) :: Pl.varintF f (m / 128)) ++ C))) (k' + 1) A.length false n F = _
      rw [vGo, hb, if_neg (by rintro (h | h); cases h; exact hsz h), if_neg (by omega), hmod, h, hnum, List.length_cons]
      simp; omega
theorem vR_of (A C : List UInt8) (n : Nat) (hn : n < 34359738368) : vR (BA (A ++ (Pl.varint n ++ C))) A.length false = (n, A.length + (Pl.varint n).length, false) := by
  have h := vGo_of C 9 A n 5 0 1 (by omega) (by omega) (by omega)
  unfold vR
  simpa [Pl.varint] using h
theorem partR_of (A C x : List UInt8) : partR (BA (A ++ (x ++ C))) A.length false x.length = (BA x, A.length + x.length, false) := by
  unfold partR
  rw [if_neg (by rw [BA_size, List.length_append, List.length_append]; simp; omega), Int.toNat_natCast]
  have e : (BA (A ++ (x ++ C))).extract A.length (A.length + x.length) = BA x := by
    apply ByteArray.ext
    rw [ByteArray.data_extract]
    simp [BA]
  rw [e]
theorem tQ_of (C : List UInt8) : ∀ (t : List ByteArray) (A : List UInt8), (∀ x ∈ t, x.size ≤ 16) → tQ (BA (A ++ (textsBytes t ++ C))) t.length A.length false = (t, (A ++ textsBytes t).length, false) := by
  intro t
  induction t with
  | nil => intro A _; simp [tQ, textsBytes]
  | cons x r ih =>
    intro A h
    have hx := h x (by simp)
    have hsz : x.data.toList.length = x.size := by simp
    have e1 : A ++ (textsBytes (x :: r) ++ C) = A ++ (Pl.varint x.size ++ (x.data.toList ++ (textsBytes r ++ C))) := by simp [textsBytes]
    have e2 : A ++ (textsBytes (x :: r) ++ C) = (A ++ Pl.varint x.size) ++ (x.data.toList ++ (textsBytes r ++ C)) := by simp [textsBytes]
    have e3 : A ++ (textsBytes (x :: r) ++ C) = (A ++ Pl.varint x.size ++ x.data.toList) ++ (textsBytes r ++ C) := by simp [textsBytes]
    have v1 := vR_of A (x.data.toList ++ (textsBytes r ++ C)) x.size (by omega)
    rw [← e1] at v1
    have p1 := partR_of (A ++ Pl.varint x.size) (textsBytes r ++ C) x.data.toList
    rw [← e2, List.length_append, hsz, BA_of] at p1
    have i1 := ih (A ++ Pl.varint x.size ++ x.data.toList) (fun y hy => h y (by simp [hy]))
    rw [← e3, List.length_append, List.length_append, hsz] at i1
    rw [List.length_cons, tQ, if_neg (by decide), v1]
    simp only
    rw [p1]
    simp only
    rw [i1]
    simp [textsBytes]
theorem lQ_of (t : List ByteArray) (hl : t.length ≤ 1000) (C : List UInt8) : ∀ (l : List Lab) (A : List UInt8), (∀ x ∈ l, t[placeOf t x.1]? = some x.1 ∧ t[placeOf t x.2]? = some x.2) → lQ (BA (A ++ (labelsBytes t l ++ C))) t l.length A.length false = some (l, (A ++ labelsBytes t l).length) := by
  intro l
  induction l with
  | nil => intro A _; simp [lQ, labelsBytes]
  | cons x r ih =>
    intro A h
    obtain ⟨h1, h2⟩ := h x (by simp)
    have k1 := (List.getElem?_eq_some_iff.1 h1).1
    have k2 := (List.getElem?_eq_some_iff.1 h2).1
    have e1 : A ++ (labelsBytes t (x :: r) ++ C) = A ++ (Pl.varint (placeOf t x.1) ++ (Pl.varint (placeOf t x.2) ++ (labelsBytes t r ++ C))) := by simp [labelsBytes]
    have e2 : A ++ (labelsBytes t (x :: r) ++ C) = (A ++ Pl.varint (placeOf t x.1)) ++ (Pl.varint (placeOf t x.2) ++ (labelsBytes t r ++ C)) := by simp [labelsBytes]
    have e3 : A ++ (labelsBytes t (x :: r) ++ C) = (A ++ Pl.varint (placeOf t x.1) ++ Pl.varint (placeOf t x.2)) ++ (labelsBytes t r ++ C) := by simp [labelsBytes]
    have v1 := vR_of A (Pl.varint (placeOf t x.2) ++ (labelsBytes t r ++ C)) (placeOf t x.1) (by omega)
    rw [← e1] at v1
    have v2 := vR_of (A ++ Pl.varint (placeOf t x.1)) (labelsBytes t r ++ C) (placeOf t x.2) (by omega)
    rw [← e2, List.length_append] at v2
    have i1 := ih (A ++ Pl.varint (placeOf t x.1) ++ Pl.varint (placeOf t x.2)) (fun y hy => h y (by simp [hy]))
    rw [← e3, List.length_append, List.length_append] at i1
    rw [List.length_cons, lQ, if_neg (by decide), v1]
    simp only
    rw [v2]
    simp only
    rw [if_neg (by omega), i1]
    simp [labelsBytes, List.getD_eq_getElem?_getD, h1, h2]
theorem serQ_of (t : List ByteArray) (s : Ser) (A D : List UInt8) (h : ∀ x ∈ s.1, t[placeOf t x.1]? = some x.1 ∧ t[placeOf t x.2]? = some x.2) (hl : t.length ≤ 1000) (h4 : s.1.length ≤ 4) (h0 : s.2 ≠ []) (h40 : s.2.length ≤ 40)
    (hwf : ∀ y ∈ s.2, -9223372036854775808 ≤ y.1 ∧ y.1 ≤ 9223372036854775807 ∧ y.2 ≤ 18446744073709551615) : serQ (BA (A ++ (seriesBytes t s.1 s.2 ++ D))) t A.length = some (s, (A ++ seriesBytes t s.1 s.2).length) := by
  obtain ⟨l, m⟩ := s
  cases m with
  | nil => exact absurd rfl h0
  | cons x r =>
    have hlen := chunkBytes_len (x :: r) (by simp at h40; simp; omega)
    have hlen' : (chunkBytes (x :: r)).length ≤ 6000 := hlen
    simp only at h h4 h40 hwf ⊢
    have e1 : A ++ (seriesBytes t l (x :: r) ++ D) = A ++ (Pl.varint l.length ++ (labelsBytes t l ++ (Pl.varint (x :: r).length ++ (Pl.varint (chunkBytes (x :: r)).length ++ (chunkBytes (x :: r) ++ D))))) := by simp [seriesBytes]
    have v1 := vR_of A (labelsBytes t l ++ (Pl.varint (x :: r).length ++ (Pl.varint (chunkBytes (x :: r)).length ++ (chunkBytes (x :: r) ++ D)))) l.length (by omega)
    rw [← e1] at v1
    have e2 : A ++ (seriesBytes t l (x :: r) ++ D) = (A ++ Pl.varint l.length) ++ (labelsBytes t l ++ (Pl.varint (x :: r).length ++ (Pl.varint (chunkBytes (x :: r)).length ++ (chunkBytes (x :: r) ++ D)))) := by simp [seriesBytes]
    have l1 := lQ_of t hl (Pl.varint (x :: r).length ++ (Pl.varint (chunkBytes (x :: r)).length ++ (chunkBytes (x :: r) ++ D))) l (A ++ Pl.varint l.length) h
    rw [← e2, List.length_append] at l1
    have e3 : A ++ (seriesBytes t l (x :: r) ++ D) = (A ++ Pl.varint l.length ++ labelsBytes t l) ++ (Pl.varint (x :: r).length ++ (Pl.varint (chunkBytes (x :: r)).length ++ (chunkBytes (x :: r) ++ D))) := by simp [seriesBytes]
    have v2 := vR_of (A ++ Pl.varint l.length ++ labelsBytes t l) (Pl.varint (chunkBytes (x :: r)).length ++ (chunkBytes (x :: r) ++ D)) (x :: r).length (by omega)
    rw [← e3] at v2
    have e4 : A ++ (seriesBytes t l (x :: r) ++ D) = (A ++ Pl.varint l.length ++ labelsBytes t l ++ Pl.varint (x :: r).length) ++ (Pl.varint (chunkBytes (x :: r)).length ++ (chunkBytes (x :: r) ++ D)) := by simp [seriesBytes]
    have v3 := vR_of (A ++ Pl.varint l.length ++ labelsBytes t l ++ Pl.varint (x :: r).length) (chunkBytes (x :: r) ++ D) (chunkBytes (x :: r)).length (by omega)
    have L1 : (A ++ Pl.varint l.length ++ labelsBytes t l ++ Pl.varint (x :: r).length).length = (A ++ Pl.varint l.length ++ labelsBytes t l).length + (Pl.varint (x :: r).length).length := List.length_append
    rw [← e4, L1] at v3
    have e5 : A ++ (seriesBytes t l (x :: r) ++ D) = (A ++ Pl.varint l.length ++ labelsBytes t l ++ Pl.varint (x :: r).length ++ Pl.varint (chunkBytes (x :: r)).length) ++ (chunkBytes (x :: r) ++ D) := by simp [seriesBytes]
    have p1 := partR_of (A ++ Pl.varint l.length ++ labelsBytes t l ++ Pl.varint (x :: r).length ++ Pl.varint (chunkBytes (x :: r)).length) D (chunkBytes (x :: r))
    have L2 : (A ++ Pl.varint l.length ++ labelsBytes t l ++ Pl.varint (x :: r).length ++ Pl.varint (chunkBytes (x :: r)).length).length = (A ++ Pl.varint l.length ++ labelsBytes t l).length + (Pl.varint (x :: r).length).length + (Pl.varint (chunkBytes (x :: r)).length).length := by rw [List.length_append, L1]
    rw [← e5, L2] at p1
    have s1 : samplesQ (BA (chunkBytes (x :: r))) (x :: r).length = some (x :: r) := samplesQ_of x r h40 hwf
    have m1 : mQ (BA (A ++ (seriesBytes t l (x :: r) ++ D))) (A ++ Pl.varint l.length ++ labelsBytes t l).length false = some (x :: r, (A ++ seriesBytes t l (x :: r)).length) := by
      unfold mQ
      rw [v2]
      simp only
      rw [v3]
      simp only
      rw [p1]
      simp only
      rw [s1]
      simp [seriesBytes]
      omega
    unfold serQ
    rw [v1, if_neg (by simp only; omega)]
    simp only
    rw [l1]
    simp only
    rw [m1]
    rfl
theorem gQ_of (t : List ByteArray) (hl : t.length ≤ 1000) : ∀ (bs : List Ser) (A : List UInt8), (∀ s ∈ bs, (∀ x ∈ s.1, t[placeOf t x.1]? = some x.1 ∧ t[placeOf t x.2]? = some x.2) ∧ s.1.length ≤ 4 ∧ s.2 ≠ [] ∧ s.2.length ≤ 40 ∧ ∀ y ∈ s.2, -9223372036854775808 ≤ y.1 ∧ y.1 ≤ 9223372036854775807 ∧ y.2 ≤ 18446744073709551615) →
    gQ (BA (A ++ seriesAll t bs)) t bs.length A.length = some bs := by
  intro bs
  induction bs with
  | nil => intro A _; rfl
  | cons s r ih =>
    intro A h
    obtain ⟨h1, h2, h3, h4, h5⟩ := h s (by simp)
    have e1 : A ++ seriesAll t (s :: r) = A ++ (seriesBytes t s.1 s.2 ++ seriesAll t r) := by simp [seriesAll]
    have e2 : A ++ seriesAll t (s :: r) = (A ++ seriesBytes t s.1 s.2) ++ seriesAll t r := by simp [seriesAll]
    have s1 := serQ_of t s A (seriesAll t r) h1 hl h2 h3 h4 h5
    rw [← e1] at s1
    have i1 := ih (A ++ seriesBytes t s.1 s.2) (fun y hy => h y (by simp [hy]))
    rw [← e2] at i1
    rw [List.length_cons, gQ, s1]
    simp only
    rw [i1]
    rfl
/-- What is packed is read by the reference too. -/
theorem decQ_of (bs : List Ser) (h1 : BatchOk bs) (h2 : LimitsOk bs) (hr : InRange bs) : decQ (BA (headOf (payload bs))) = some bs := by
  have hF := fits_of h1 h2
  have hsm := allTexts_small bs hF
  have hts := texts_sorted (allTexts bs)
  have hlen := sortedTexts_len (allTexts bs)
  have hin : ∀ s ∈ bs, ∀ x ∈ s.1, (sortedTexts (allTexts bs))[placeOf (sortedTexts (allTexts bs)) x.1]? = some x.1 ∧ (sortedTexts (allTexts bs))[placeOf (sortedTexts (allTexts bs)) x.2]? = some x.2 := fun s hs x hx => by
    have m : ∀ y, y = x.1 ∨ y = x.2 → y ∈ allTexts bs := fun y hy => by
      refine List.mem_flatMap.2 ⟨s, hs, List.mem_flatMap.2 ⟨x, hx, ?_⟩⟩
      rcases hy with rfl | rfl <;> simp
    exact ⟨place_of _ hts.1 _ (hts.2 _ (m _ (.inl rfl))), place_of _ hts.1 _ (hts.2 _ (m _ (.inr rfl)))⟩
  have h16 : ∀ x ∈ sortedTexts (allTexts bs), x.size ≤ 16 := fun x hx => hsm.2 x (sortedTexts_mem hx)
  have hl64 : (sortedTexts (allTexts bs)).length ≤ 64 := by omega
  have hs8 := hF.series
  have hA : ([67, 72, 1] ++ be32 (payload bs).length).length = 7 := rfl
  unfold headOf
  generalize [67, 72, 1] ++ be32 (payload bs).length = A at *
  unfold payload
  generalize sortedTexts (allTexts bs) = t at *
  have e1 : A ++ (Pl.varint t.length ++ textsBytes t ++ Pl.varint bs.length ++ seriesAll t bs) = A ++ (Pl.varint t.length ++ (textsBytes t ++ (Pl.varint bs.length ++ seriesAll t bs))) := by simp
  have e2 : A ++ (Pl.varint t.length ++ (textsBytes t ++ (Pl.varint bs.length ++ seriesAll t bs))) = (A ++ Pl.varint t.length) ++ (textsBytes t ++ (Pl.varint bs.length ++ seriesAll t bs)) := by simp
  have e3 : A ++ (Pl.varint t.length ++ (textsBytes t ++ (Pl.varint bs.length ++ seriesAll t bs))) = (A ++ Pl.varint t.length ++ textsBytes t) ++ (Pl.varint bs.length ++ seriesAll t bs) := by simp
  have e4 : A ++ (Pl.varint t.length ++ (textsBytes t ++ (Pl.varint bs.length ++ seriesAll t bs))) = (A ++ Pl.varint t.length ++ textsBytes t ++ Pl.varint bs.length) ++ seriesAll t bs := by simp
  have v1 := vR_of A (textsBytes t ++ (Pl.varint bs.length ++ seriesAll t bs)) t.length (by omega)
  rw [hA] at v1
  have t1 := tQ_of (Pl.varint bs.length ++ seriesAll t bs) t (A ++ Pl.varint t.length) h16
  rw [← e2, List.length_append, hA] at t1
  have v2 := vR_of (A ++ Pl.varint t.length ++ textsBytes t) (seriesAll t bs) bs.length (by omega)
  rw [← e3] at v2
  have g1 := gQ_of t (by omega) bs (A ++ Pl.varint t.length ++ textsBytes t ++ Pl.varint bs.length) fun s hs => ⟨hin s hs, hF.labels s hs, (hF.samples s hs).1, (hF.samples s hs).2, hr s hs⟩
  have L1 : (A ++ Pl.varint t.length ++ textsBytes t ++ Pl.varint bs.length).length = (A ++ Pl.varint t.length ++ textsBytes t).length + (Pl.varint bs.length).length := List.length_append
  rw [← e4, L1] at g1
  rw [e1]
  unfold decQ
  simp only
  rw [v1]
  simp only
  rw [t1]
  simp only
  rw [v2]
  simp only
  rw [if_neg (by rintro (h | h); cases h; omega), g1]
end Go.Proofs.YtamcclcbmenjdaaGreatDoor

/- choirkeep's pick and labels. -/
namespace Go.Proofs.YtamcclcbmenjdaaGreatDoor
open Go.RowKit Go.Lib

/-- Which of n things c speaks of. -/
def pk (c : Int) (n : Nat) : Nat := (if c < 0 then -(c + 1) else c).toNat % n
theorem pk_lt (c : Int) (n : Nat) (h : 0 < n) : pk c n < n := Nat.mod_lt _ h

theorem toNat_emod (x : Int) (n : Nat) (h : 0 ≤ x) : ((x.toNat % n : Nat) : Int) = x % n := by
  rw [Int.natCast_emod, Int.toNat_of_nonneg h]
set_option maxHeartbeats 400000 in
theorem pick_any (c : Int) (n : Nat) (w : World) (h1 : -9223372036854775808 ≤ c) (h2 : c ≤ 9223372036854775807) (hn : 0 < n) (hn2 : n ≤ 9223372036854775807) :
    Calls Tryz.prog 22 #[.int .i64 c, .int .i64 n] w fun e w' => e = .returned (.int .i64 (pk c n : Nat)) ∧ w' = w := by
  have hnz : ¬ (n : Int) = 0 := by omega
  by_cases hc : c < 0
  · have e : ((pk c n : Nat) : Int) = -((c + 1).tmod n) := by
      unfold pk; rw [if_pos hc, toNat_emod _ _ (by omega), ← Int.neg_tmod, Int.tmod_eq_emod_of_nonneg (by omega)]
    have HE := hide e
    have hw1 : IntKind.i64.wrap (c + 1) = c + 1 := by rw [IntKind.wrap_i64]; omega
    have hw2 : IntKind.i64.wrap (-(c + 1)) = -(c + 1) := by rw [IntKind.wrap_i64]; omega
    clear e
    go_enter Tryz.func22, Tryz.ntmps22
    go_wp2
    go_ret
    exact ⟨ret_int (by rw [HE.out]), rfl⟩
  · have e : ((pk c n : Nat) : Int) = c % n := by
      unfold pk; rw [if_neg hc, toNat_emod _ _ (by omega)]
    have HE := hide e
    clear e
    go_enter Tryz.func22, Tryz.ntmps22
    go_wp2
    go_ret
    exact ⟨ret_int (by rw [HE.out]), rfl⟩

def tx (l : List UInt8) : ByteArray := ⟨l.toArray⟩
/-- The labels of series number i. -/
def labsOf : Nat → List Lab
  | 0 => []
  | 1 => [(tx [104, 111, 115, 116], tx [97])]
  | 2 => [(tx [104, 111, 115, 116], tx [97]), (tx [111, 102], tx [108, 111, 97, 100])]
  | _ => [(tx [111, 102], tx [108, 111, 97, 100])]

def kCells : Array Value := #[.string ⟨#[104, 111, 115, 116]⟩, .string ⟨#[97]⟩, .string ⟨#[111, 102]⟩, .string ⟨#[108, 111, 97, 100]⟩]
def kRows (g : Nat) : Array Value := #[.slice none 0 0, .slice (some ⟨g, 0, none⟩) 1 2, .slice (some ⟨g, 0, none⟩) 2 2, .slice (some ⟨g, 2, none⟩) 1 1]
/-- The world behind it. -/
def kW (w : World) : World := ((w.alloc (.cells kCells 80)).alloc (.cells (kRows w.heap.size) 36)).drew
theorem kW_facts (w : World) : (∀ j, (kW w).cell? ⟨w.heap.size, j, none⟩ = kCells[j]?) ∧ Below w.heap.size w (kW w) ∧ w.heap.size < (kW w).heap.size := by
  refine ⟨fun j => ?_, (((Below.refl _ _).alloc (Nat.le_refl _) _).alloc (by simp) _).drew, ?_⟩
  · exact (World.cell?_of_block (a := ⟨w.heap.size, j, none⟩) (heap_alloc_old (w.alloc (.cells kCells 80)) _ (by simp))).trans (World.cell?_alloc_new _ _ _ j)
  · show w.heap.size < ((w.alloc (.cells kCells 80)).alloc (.cells (kRows w.heap.size) 36)).heap.size
    simp; omega
theorem klab_at (w : World) (o n c : Nat) (l : List Lab) (hl : l.length = n) (hc : n ≤ c) (h : ∀ i x, l[i]? = some x → kCells[o + i * 2]? = some (.string x.1) ∧ kCells[o + i * 2 + 1]? = some (.string x.2)) :
    LabelsAt (kW w) (kW w).heap.size (.slice (some ⟨w.heap.size, o, none⟩) n c) l := by
  obtain ⟨h1, _, h3⟩ := kW_facts w
  exact ⟨_, c, by rw [hl], by omega, .inr ⟨w.heap.size, o, rfl, h3, fun i x hx => ⟨(h1 _).trans (h i x hx).1, (h1 _).trans (h i x hx).2⟩⟩⟩

set_option maxRecDepth 100000 in
set_option maxHeartbeats 400000 in
theorem klabels_any (i : Nat) (w : World) (hi : i < 4) :
    Calls Tryz.prog 51 #[.int .i64 i] w fun e w' => ∃ v, e = .returned v ∧ LabelsAt w' w'.heap.size v (labsOf i) ∧ (∀ k, v.ownBlock = some k → w.heap.size ≤ k ∧ k < w'.heap.size) ∧ Below w.heap.size w w' := by
  have e : i = 0 ∨ i = 1 ∨ i = 2 ∨ i = 3 := by omega
  rcases e with rfl | rfl | rfl | rfl
  · go_enter Tryz.func51, Tryz.ntmps51
    go_wp2
    go_region
    go_wp2
    go_ret
    exact ⟨.slice none 0 0, rfl, ⟨none, 0, rfl, Nat.le_refl _, .inl rfl⟩, (fun k h => by cases h), (kW_facts w).2.1⟩
  · go_enter Tryz.func51, Tryz.ntmps51
    go_wp2
    go_region
    go_wp2
    go_ret
    exact ⟨.slice (some ⟨w.heap.size, 0, none⟩) 1 2, rfl, klab_at w 0 1 2 (labsOf 1) rfl (by omega) (fun i x hx => by
      match i, hx with
      | 0, hx => cases hx; exact ⟨rfl, rfl⟩), fun k h => by cases h; exact ⟨Nat.le_refl _, (kW_facts w).2.2⟩, (kW_facts w).2.1⟩
  · go_enter Tryz.func51, Tryz.ntmps51
    go_wp2
    go_region
    go_wp2
    go_ret
    exact ⟨.slice (some ⟨w.heap.size, 0, none⟩) 2 2, rfl, klab_at w 0 2 2 (labsOf 2) rfl (by omega) (fun i x hx => by
      match i, hx with
      | 0, hx => cases hx; exact ⟨rfl, rfl⟩
      | 1, hx => cases hx; exact ⟨rfl, rfl⟩), fun k h => by cases h; exact ⟨Nat.le_refl _, (kW_facts w).2.2⟩, (kW_facts w).2.1⟩
  · go_enter Tryz.func51, Tryz.ntmps51
    go_wp2
    go_region
    go_wp2
    go_ret
    exact ⟨.slice (some ⟨w.heap.size, 2, none⟩) 1 1, rfl, klab_at w 2 1 1 (labsOf 3) rfl (by omega) (fun i x hx => by
      match i, hx with
      | 0, hx => cases hx; exact ⟨rfl, rfl⟩), fun k h => by cases h; exact ⟨Nat.le_refl _, (kW_facts w).2.2⟩, (kW_facts w).2.1⟩
end Go.Proofs.YtamcclcbmenjdaaGreatDoor

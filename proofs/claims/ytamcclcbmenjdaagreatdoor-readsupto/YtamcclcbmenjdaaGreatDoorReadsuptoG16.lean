/- 'choirlaw.Reads', for any list of texts of bulk at most 1048576: Decode answers the document's batch or error, one behind the other; lists that came out are their owner's own. The second form's statement and its card: its only condition is the row's own bound on the argument's bulk. -/
import Derived.Test.YtamcclcbmenjdaaGreatDoorReadsuptoG1
import Derived.Test.YtamcclcbmenjdaaGreatDoorReadsuptoG10
import Derived.Test.YtamcclcbmenjdaaGreatDoorReadsuptoG15
import Derived.Laws.CopyRow
import Derived.Laws.MakeOwn
import Derived.Lib.SlBuf
/- A chunk, the texts in their order, a payload: what is packed is read again, and a batch has one frame: pure. -/
namespace Go.Proofs.YtamcclcbmenjdaaGreatDoor

theorem timeU_of (A C : List Bool) (u : US) (time : Nat) (hp : u.pos = A.length) (ht : u.t < 18446744073709551616) (hd : u.d < 18446744073709551616) (hm : time < 18446744073709551616) :
    timeU (packed (A ++ (timeBits u.t u.d time ++ C))) u = { u with pos := A.length + (timeBits u.t u.d time).length, t := time, d := sub64 time u.t } := by
  have h1 : sub64 time u.t < 18446744073709551616 := by unfold sub64; omega
  have h2 : sub64 (sub64 time u.t) u.d < 18446744073709551616 := by unfold sub64; omega
  have e1 := add_sub64 time u.t hm ht
  have e2 := add_sub64 (sub64 time u.t) u.d h1 hd
  unfold timeU timeBits
  generalize sub64 (sub64 time u.t) u.d = e at *
  generalize sub64 time u.t = d at *
  have hw := way_width e
  have hs := sub_add64 e (stepShift (stepWay e)) h2 (stepShift_lt _)
  have hle := stepWay_le e
  generalize add64 e (stepShift (stepWay e)) = x at *
  generalize stepWay e = k at *
  have hk := mk_packed k 4 u.st (Pl.bitsOf x (stepWidth k) ++ C) hle A
  have ht := tk_packed (A ++ markOf k 4) C x (stepWidth k) u.st
  rw [List.append_assoc] at ht
  rw [hp, List.append_assoc, hk]
  simp only
  rw [← List.length_append, ht]
  simp only
  rw [hw, hs, e2, e1]
  simp [Pl.bitsOf_length, Nat.add_assoc]
theorem lt_of_lz (x a : Nat) (hx : x < 2 ^ 64) (h : a ≤ lz x) : x < 2 ^ (64 - a) := by
  have h1 : x < 2 ^ Lib.bitLen x := bitLenAux_lt 64 x hx
  have h2 : Lib.bitLen x ≤ 64 := bitLenAux_le 64 x
  unfold lz at h
  exact Nat.lt_of_lt_of_le h1 (Nat.pow_le_pow_right (by decide) (by omega))
theorem dvd_of_tz (x k : Nat) (hx : x < 2 ^ 64) (h0 : x ≠ 0) (h : k ≤ tz x) : x % 2 ^ k = 0 := by
  obtain ⟨m, hm, _⟩ := Lib.ctzFrom_spec 64 x (by omega) hx
  have e : tz x = Lib.ctzFrom 64 x := by unfold tz Lib.ctz; rw [if_neg h0]
  rw [← e] at hm
  rw [hm, show tz x = k + (tz x - k) by omega, Nat.pow_add, Nat.mul_assoc]
  exact Nat.mul_mod_right _ _
theorem window_read (x a z : Nat) (hl : x < 2 ^ (64 - a)) (haz : a + z ≤ 64) (hd : x % 2 ^ (64 - a - z) = 0) : x / 2 ^ (64 - a - z) % 2 ^ z * 2 ^ (64 - a - z) = x := by
  have h1 : x / 2 ^ (64 - a - z) < 2 ^ z := by
    rw [Nat.div_lt_iff_lt_mul (Nat.two_pow_pos _), ← Nat.pow_add, show z + (64 - a - z) = 64 - a by omega]; exact hl
  rw [Nat.mod_eq_of_lt h1]
  exact Nat.div_mul_cancel (Nat.dvd_of_mod_eq_zero hd)
theorem xor_back (b y : Nat) : b ^^^ (y ^^^ b) = y := by
  rw [Nat.xor_comm y b, ← Nat.xor_assoc, Nat.xor_self, Nat.zero_xor]
theorem inU_of (A C : List Bool) (u : US) (y : Nat) (hp : u.pos = A.length) (haz : u.a + u.z ≤ 64) (hl : y ^^^ u.b < 2 ^ (64 - u.a)) (hd : (y ^^^ u.b) % 2 ^ (64 - u.a - u.z) = 0) :
    inU (packed (A ++ (Pl.bitsOf ((y ^^^ u.b) / 2 ^ (64 - u.a - u.z)) u.z ++ C))) u = { u with pos := A.length + u.z, b := y } := by
  unfold inU
  rw [hp, tk_packed]
  simp only
  rw [window_read _ _ _ hl haz hd, xor_back]
theorem winU_of (A C : List Bool) (u : US) (a z : Nat) (hp : u.pos = A.length) (ha : a ≤ 31) (hz : 1 ≤ z) (haz : a + z ≤ 64) :
    winU (packed (A ++ (winBits a z ++ C))) u = { u with pos := A.length + 11, a := a, z := z } := by
  unfold winU winBits
  have h1 := tk_packed A (Pl.bitsOf (z - 1) 6 ++ C) a 5 u.st
  have h2 := tk_packed (A ++ Pl.bitsOf a 5) C (z - 1) 6 u.st
  rw [List.append_assoc, List.length_append, Pl.bitsOf_length] at h2
  rw [hp, List.append_assoc, h1]
  simp only
  rw [h2]
  simp only
  have e1 : a % 2 ^ 5 = a := Nat.mod_eq_of_lt (by omega)
  have e2 : (z - 1) % 2 ^ 6 + 1 = z := by rw [Nat.mod_eq_of_lt (by omega)]; omega
  rw [e1, e2, if_pos haz]
theorem bitU_of (A C : List Bool) (u : US) (y : Nat) (hp : u.pos = A.length) (haz : u.a + u.z ≤ 64) (hy : y < 2 ^ 64) (hb : u.b < 2 ^ 64) :
    bitU (packed (A ++ (bitBits u.a u.z (y ^^^ u.b) ++ C))) u = { u with pos := A.length + (bitBits u.a u.z (y ^^^ u.b)).length, b := y, a := nextA u.a u.z (y ^^^ u.b), z := nextZ u.a u.z (y ^^^ u.b) } := by
  have hx : y ^^^ u.b < 2 ^ 64 := Nat.xor_lt_two_pow hy hb
  by_cases h0 : y ^^^ u.b = 0
  · have hyb : y = u.b := by
      have := xor_back u.b y
      rw [h0, Nat.xor_zero] at this; exact this.symm
    have hw : wayOf u.a u.z (y ^^^ u.b) = 0 := by unfold wayOf; rw [if_pos h0]
    have hm := mk_packed 0 2 u.st C (by omega) A
    unfold bitU bitBits nextA nextZ
    rw [hw, if_pos rfl, hp, hm]
    simp [hyb]
  · by_cases hh : holdsB u.a u.z (y ^^^ u.b) = true
    · have hw : wayOf u.a u.z (y ^^^ u.b) = 1 := by unfold wayOf; rw [if_neg h0, if_pos hh]
      unfold holdsB at hh
      simp only [Bool.and_eq_true, decide_eq_true_eq] at hh
      have hl := lt_of_lz _ u.a hx hh.2.1
      have hd := dvd_of_tz _ (64 - u.a - u.z) hx h0 (by omega)
      have hbb : bitBits u.a u.z (y ^^^ u.b) = markOf 1 2 ++ Pl.bitsOf ((y ^^^ u.b) / 2 ^ (64 - u.a - u.z)) u.z := by unfold bitBits; rw [hw]; simp
      have hna : nextA u.a u.z (y ^^^ u.b) = u.a := by unfold nextA; rw [hw]; simp
      have hnz : nextZ u.a u.z (y ^^^ u.b) = u.z := by unfold nextZ; rw [hw]; simp
      rw [hbb, hna, hnz]
      unfold bitU
      generalize hX : (y ^^^ u.b) / 2 ^ (64 - u.a - u.z) = X at *
      have hm := mk_packed 1 2 u.st (Pl.bitsOf X u.z ++ C) (by omega) A
      have hi := inU_of (A ++ markOf 1 2) C { u with pos := A.length + (markOf 1 2).length, st := u.st } y (by simp) haz hl hd
      simp only at hi
      rw [hX, List.append_assoc] at hi
      rw [hp, List.append_assoc, hm]
      simp only
      rw [if_neg (by decide), if_neg (by decide), hi]
      simp [Pl.bitsOf_length, Nat.add_assoc]
    · have hw : wayOf u.a u.z (y ^^^ u.b) = 2 := by unfold wayOf; rw [if_neg h0, if_neg hh]
      obtain ⟨n1, n2, n3, n4⟩ := new_bounds _ h0 hx
      have hl := lt_of_lz _ (newAhead (y ^^^ u.b)) hx (by unfold newAhead; omega)
      have hd := dvd_of_tz _ (64 - newAhead (y ^^^ u.b) - newSize (y ^^^ u.b)) hx h0 (by omega)
      have hbb : bitBits u.a u.z (y ^^^ u.b) = markOf 2 2 ++ winBits (newAhead (y ^^^ u.b)) (newSize (y ^^^ u.b)) ++ Pl.bitsOf ((y ^^^ u.b) / 2 ^ (64 - newAhead (y ^^^ u.b) - newSize (y ^^^ u.b))) (newSize (y ^^^ u.b)) := by unfold bitBits; rw [hw]; simp
      have hna : nextA u.a u.z (y ^^^ u.b) = newAhead (y ^^^ u.b) := by unfold nextA; rw [hw]; simp
      have hnz : nextZ u.a u.z (y ^^^ u.b) = newSize (y ^^^ u.b) := by unfold nextZ; rw [hw]; simp
      rw [hbb, hna, hnz]
      unfold bitU
      generalize hX : (y ^^^ u.b) / 2 ^ (64 - newAhead (y ^^^ u.b) - newSize (y ^^^ u.b)) = X at *
      generalize newAhead (y ^^^ u.b) = a at *
      generalize newSize (y ^^^ u.b) = z at *
      have hm := mk_packed 2 2 u.st (winBits a z ++ (Pl.bitsOf X z ++ C)) (by omega) A
      have hn := winU_of (A ++ markOf 2 2) (Pl.bitsOf X z ++ C) { u with pos := A.length + (markOf 2 2).length, st := u.st } a z (by simp) n1 n3 (by omega)
      have hi := inU_of (A ++ markOf 2 2 ++ winBits a z) C { u with pos := (A ++ markOf 2 2).length + 11, a := a, z := z } y (by simp [winBits, Pl.bitsOf_length]; omega) (by show a + z ≤ 64; omega) hl hd
      simp only at hi hn
      rw [hX] at hi
      simp only [List.append_assoc] at hi hn hm ⊢
      rw [hp, hm]
      simp only
      rw [if_neg (by decide), if_pos trivial, hn, hi]
      simp [Pl.bitsOf_length, winBits, Nat.add_assoc]; omega
theorem toI_u64 (t : Int) (h1 : -9223372036854775808 ≤ t) (h2 : t ≤ 9223372036854775807) : toI (u64 t) = t := by
  unfold toI u64; split <;> omega
theorem seqU_cons (s : ByteArray) (u : US) (n : Nat) : seqU s u (n + 1) = (samU u :: (seqU s (stepU s u) n).1, (seqU s (stepU s u) n).2) := by
  induction n with
  | zero => rfl
  | succ n ih => rw [seqU, ih]; simp [seqU]
theorem seqU_of (r : List (Int × Nat)) : ∀ (A : List Bool) (u : US), u.pos = A.length → u.t < 18446744073709551616 → u.d < 18446744073709551616 → u.b < 2 ^ 64 → u.a + u.z ≤ 64 →
    (∀ x ∈ r, -9223372036854775808 ≤ x.1 ∧ x.1 ≤ 9223372036854775807 ∧ x.2 ≤ 18446744073709551615) →
    (seqU (packed (A ++ goBits u.t u.d u.b u.a u.z r)) u r.length).1 = samU u :: r ∧ (seqU (packed (A ++ goBits u.t u.d u.b u.a u.z r)) u r.length).2.st = u.st := by
  induction r with
  | nil => intro A u _ _ _ _ _ _; exact ⟨rfl, rfl⟩
  | cons x r ih =>
    intro A u hp ht hd hb haz hwf
    have hx := hwf x (by simp)
    have htm : u64 x.1 < 18446744073709551616 := by have := u64_le x.1; omega
    have hx2 : x.2 < 2 ^ 64 := by omega
    rw [List.length_cons, seqU_cons, goBits]
    have h1 := timeU_of A (bitBits u.a u.z (x.2 ^^^ u.b) ++ goBits (u64 x.1) (sub64 (u64 x.1) u.t) x.2 (nextA u.a u.z (x.2 ^^^ u.b)) (nextZ u.a u.z (x.2 ^^^ u.b)) r) u (u64 x.1) hp ht hd htm
    have h2 := bitU_of (A ++ timeBits u.t u.d (u64 x.1)) (goBits (u64 x.1) (sub64 (u64 x.1) u.t) x.2 (nextA u.a u.z (x.2 ^^^ u.b)) (nextZ u.a u.z (x.2 ^^^ u.b)) r)
      { u with pos := A.length + (timeBits u.t u.d (u64 x.1)).length, t := u64 x.1, d := sub64 (u64 x.1) u.t } x.2 (by simp) haz hx2 hb
    have hn := next_bounds u.a u.z (x.2 ^^^ u.b) haz (Nat.xor_lt_two_pow hx2 hb)
    have hs1 : sub64 (u64 x.1) u.t < 18446744073709551616 := by unfold sub64; omega
    have h3 := ih (A ++ timeBits u.t u.d (u64 x.1) ++ bitBits u.a u.z (x.2 ^^^ u.b)) ⟨(A ++ timeBits u.t u.d (u64 x.1) ++ bitBits u.a u.z (x.2 ^^^ u.b)).length, u.st, u64 x.1, sub64 (u64 x.1) u.t, x.2, nextA u.a u.z (x.2 ^^^ u.b), nextZ u.a u.z (x.2 ^^^ u.b)⟩
      rfl htm hs1 hx2 hn (fun y hy => hwf y (by simp [hy]))
    simp only at h1 h2 h3
    generalize goBits (u64 x.1) (sub64 (u64 x.1) u.t) x.2 (nextA u.a u.z (x.2 ^^^ u.b)) (nextZ u.a u.z (x.2 ^^^ u.b)) r = G at *
    have hst : stepU (packed (A ++ (timeBits u.t u.d (u64 x.1) ++ bitBits u.a u.z (x.2 ^^^ u.b) ++ G))) u = ⟨(A ++ timeBits u.t u.d (u64 x.1) ++ bitBits u.a u.z (x.2 ^^^ u.b)).length, u.st, u64 x.1, sub64 (u64 x.1) u.t, x.2, nextA u.a u.z (x.2 ^^^ u.b), nextZ u.a u.z (x.2 ^^^ u.b)⟩ := by
      unfold stepU
      simp only [List.append_assoc] at h1 h2 ⊢
      rw [h1, h2]
      simp [Nat.add_assoc]
    simp only [List.append_assoc] at h3 hst ⊢
    rw [hst, h3.1, h3.2]
    have : samU ⟨(A ++ (timeBits u.t u.d (u64 x.1) ++ bitBits u.a u.z (x.2 ^^^ u.b))).length, u.st, u64 x.1, sub64 (u64 x.1) u.t, x.2, nextA u.a u.z (x.2 ^^^ u.b), nextZ u.a u.z (x.2 ^^^ u.b)⟩ = x := by
      unfold samU; rw [toI_u64 x.1 hx.1 hx.2.1]
    rw [this]
    exact ⟨rfl, rfl⟩
theorem chunk_of (x : Int × Nat) (r : List (Int × Nat)) (hwf : ∀ y ∈ x :: r, -9223372036854775808 ≤ y.1 ∧ y.1 ≤ 9223372036854775807 ∧ y.2 ≤ 18446744073709551615) :
    (seqU (packed (chunkBits (x :: r))) (firstU (packed (chunkBits (x :: r)))) r.length).1 = x :: r ∧ (seqU (packed (chunkBits (x :: r))) (firstU (packed (chunkBits (x :: r)))) r.length).2.st = 0 := by
  have hx := hwf x (by simp)
  have htm : u64 x.1 < 18446744073709551616 := by have := u64_le x.1; omega
  have hx2 : x.2 < 2 ^ 64 := by omega
  have hf : firstU (packed (chunkBits (x :: r))) = ⟨128, 0, u64 x.1, 0, x.2, 0, 0⟩ := by
    have h1 := tk_packed [] (Pl.bitsOf x.2 64 ++ goBits (u64 x.1) 0 x.2 0 0 r) (u64 x.1) 64 0
    have h2 := tk_packed (Pl.bitsOf (u64 x.1) 64) (goBits (u64 x.1) 0 x.2 0 0 r) x.2 64 0
    rw [List.nil_append, List.length_nil, Nat.zero_add, Nat.mod_eq_of_lt htm] at h1
    rw [Pl.bitsOf_length, Nat.mod_eq_of_lt hx2] at h2
    have hc : chunkBits (x :: r) = Pl.bitsOf (u64 x.1) 64 ++ (Pl.bitsOf x.2 64 ++ goBits (u64 x.1) 0 x.2 0 0 r) := by rw [chunkBits, List.append_assoc]
    unfold firstU
    rw [hc, h1]
    simp only
    rw [h2]
  rw [hf]
  have h := seqU_of r (Pl.bitsOf (u64 x.1) 64 ++ Pl.bitsOf x.2 64) ⟨128, 0, u64 x.1, 0, x.2, 0, 0⟩ (by simp [Pl.bitsOf_length]) htm (by show 0 < 18446744073709551616; omega) hx2 (by show 0 + 0 ≤ 64; omega) (fun y hy => hwf y (by simp [hy]))
  simp only at h
  rw [chunkBits, h.1, h.2]
  refine ⟨?_, rfl⟩
  unfold samU
  rw [toI_u64 x.1 hx.1 hx.2.1]
end Go.Proofs.YtamcclcbmenjdaaGreatDoor
namespace Go.Proofs.YtamcclcbmenjdaaGreatDoor
open Go.Lib Go.Sort

theorem get_list (zs : List (List UInt8)) (j : Nat) (hj : j < zs.length) : zs.toArray[j]! = zs[j] := by simp [hj]
theorem compact_sorted (zs : List (List UInt8)) (hs : zs.Pairwise (· ≤ ·)) : (Lib.compact zs).Pairwise (· < ·) ∧ ∀ x ∈ zs, x ∈ Lib.compact zs := by
  have hle : ∀ i j, i ≤ j → j < zs.length → zs.toArray[i]! ≤ zs.toArray[j]! := fun i j hij hj => by
    rw [get_list zs i (by omega), get_list zs j hj]
    by_cases e : i = j
    · subst e; exact List.not_lt.1 (List.lt_irrefl _)
    · exact List.pairwise_iff_getElem.1 hs i j (by omega) hj (by omega)
  have key : ∀ m, m ≤ zs.length → (Lib.compactUpTo zs.toArray m).Pairwise (· < ·) ∧ (∀ j, j < m → zs.toArray[j]! ∈ Lib.compactUpTo zs.toArray m) ∧ ∀ x ∈ Lib.compactUpTo zs.toArray m, ∃ j, j < m ∧ x = zs.toArray[j]! := by
    intro m
    induction m with
    | zero => intro _; exact ⟨by simp [Lib.compactUpTo], fun j hj => by omega, fun x hx => by simp [Lib.compactUpTo] at hx⟩
    | succ m ih =>
      intro hm
      obtain ⟨h1, h2, h3⟩ := ih (by omega)
      rw [Lib.compactUpTo_succ]
      by_cases hk : Lib.keeps zs.toArray m = true
      · rw [if_pos hk]
        refine ⟨?_, fun j hj => ?_, fun x hx => ?_⟩
        · rw [List.pairwise_append]
          refine ⟨h1, List.pairwise_singleton _ _, fun x hx y hy => ?_⟩
          rw [List.mem_singleton.1 hy]
          obtain ⟨j, hj, rfl⟩ := h3 x hx
          have hne : zs.toArray[m]! ≠ zs.toArray[m - 1]! := by
            simp [Lib.keeps] at hk
            rcases hk with h | h
            · omega
            · simpa using h
          exact List.lt_of_le_of_lt (hle j (m - 1) (by omega) (by omega)) (lt_of_le_ne (hle (m - 1) m (by omega) (by omega)) (Ne.symm hne))
        · by_cases e : j = m
          · subst e; simp
          · exact List.mem_append_left _ (h2 j (by omega))
        · rcases List.mem_append.1 hx with hx | hx
          · obtain ⟨j, hj, e⟩ := h3 x hx; exact ⟨j, by omega, e⟩
          · exact ⟨m, by omega, List.mem_singleton.1 hx⟩
      · rw [if_neg hk, List.append_nil]
        have hm0 : 0 < m := by
          rcases Nat.eq_zero_or_pos m with h | h
          · subst h; exact absurd (Lib.keeps_lt_one _ 0 (by omega)) hk
          · exact h
        have heq : zs.toArray[m]! = zs.toArray[m - 1]! := by
          by_cases h : zs.toArray[m]! = zs.toArray[m - 1]!
          · exact h
          · exact absurd (Lib.keeps_pos h) hk
        refine ⟨h1, fun j hj => ?_, fun x hx => by obtain ⟨j, hj, e⟩ := h3 x hx; exact ⟨j, by omega, e⟩⟩
        by_cases e : j = m
        · subst e; rw [heq]; exact h2 _ (by omega)
        · exact h2 j (by omega)
  obtain ⟨h1, h2, _⟩ := key zs.length (Nat.le_refl _)
  refine ⟨h1, fun x hx => ?_⟩
  obtain ⟨j, hj, rfl⟩ := List.mem_iff_getElem.1 hx
  rw [← get_list zs j hj]
  exact h2 j hj
theorem texts_sorted (l : List ByteArray) : (sortedTexts l).Pairwise (fun a b => a.data.toList < b.data.toList) ∧ ∀ x ∈ l, x ∈ sortedTexts l := by
  have hs : ((l.map fun s => s.data.toList).mergeSort fun x y => decide (x ≤ y)).Pairwise (· ≤ ·) := by
    have := List.pairwise_mergeSort (le := fun x y : List UInt8 => decide (x ≤ y)) (fun a b c h1 h2 => by simp at *; exact List.le_trans h1 h2) (fun a b => by simp; exact List.le_total a b) (l.map fun s => s.data.toList)
    exact this.imp fun h => of_decide_eq_true h
  obtain ⟨h1, h2⟩ := compact_sorted _ hs
  unfold sortedTexts
  refine ⟨?_, fun x hx => ?_⟩
  · rw [List.pairwise_map]
    exact h1.imp fun h => by simpa using h
  · refine List.mem_map.2 ⟨x.data.toList, h2 _ (List.mem_mergeSort.2 (List.mem_map.2 ⟨x, hx, rfl⟩)), ?_⟩
    simp
theorem bsGo_in (less : Nat → Bool) (k n : Nat) (h1 : ∀ t, t < k → less t = true) (h2 : ∀ t, k ≤ t → t < n → less t = false) : ∀ (f lo hi : Nat), hi - lo ≤ f → lo ≤ k → k ≤ hi → hi ≤ n → Lib.bsGo less f lo hi = k
  | 0, lo, hi, hf, a, b, _ => by simp [Lib.bsGo]; omega
  | f + 1, lo, hi, hf, a, b, c => by
    unfold Lib.bsGo
    by_cases h : lo < hi
    · rw [if_pos h]
      by_cases hm : (lo + hi) / 2 < k
      · rw [h1 _ hm, if_pos rfl]; exact bsGo_in less k n h1 h2 f _ _ (by omega) (by omega) b c
      · rw [h2 _ (by omega) (by omega)]; exact bsGo_in less k n h1 h2 f _ _ (by omega) a (by omega) (by omega)
    · rw [if_neg h]; omega
theorem place_of (texts : List ByteArray) (hp : texts.Pairwise (fun a b => a.data.toList < b.data.toList)) (x : ByteArray) (hx : x ∈ texts) : texts[placeOf texts x]? = some x := by
  obtain ⟨k, hk, e⟩ := List.mem_iff_getElem.1 hx
  have hg : ∀ t (ht : t < texts.length), (texts.getD t ByteArray.empty).toList = texts[t].data.toList := fun t ht => by
    rw [ByteArray.toList_eq, List.getD_eq_getElem?_getD, List.getElem?_eq_getElem ht]; rfl
  have hk2 : placeOf texts x = k := by
    unfold placeOf
    refine bsGo_in _ k texts.length (fun t ht => ?_) (fun t ht htl => ?_) _ _ _ (by omega) (Nat.zero_le _) (by omega) (Nat.le_refl _)
    · rw [less_eq, hg t (by omega), ByteArray.toList_eq, ← e]
      exact decide_eq_true (List.pairwise_iff_getElem.1 hp t k (by omega) hk ht)
    · rw [less_eq, hg t htl, ByteArray.toList_eq, ← e]
      refine decide_eq_false ?_
      by_cases h : t = k
      · subst h; exact List.lt_irrefl _
      · exact List.lt_asymm (List.pairwise_iff_getElem.1 hp k t hk htl (by omega))
  rw [hk2, List.getElem?_eq_getElem hk, e]
end Go.Proofs.YtamcclcbmenjdaaGreatDoor
namespace Go.Proofs.YtamcclcbmenjdaaGreatDoor

theorem seqTo_cons {α : Type} (f : Rest → α × Rest) (s : Rest) (n : Nat) : seqTo f s (n + 1) = ((f s).1 :: (seqTo f (f s).2 n).1, (seqTo f (f s).2 n).2) := by
  induction n with
  | zero => rfl
  | succ n ih => rw [seqTo, ih]; simp [seqTo]
theorem seqTo_of {α : Type} (f : Rest → α × Rest) (enc : α → List UInt8) (C : List UInt8) : ∀ xs : List α, (∀ x ∈ xs, ∀ D, f (BA (enc x ++ D), 0) = (x, (BA D, 0))) → seqTo f (BA (xs.flatMap enc ++ C), 0) xs.length = (xs, (BA C, 0)) := by
  intro xs
  induction xs with
  | nil => intro _; rfl
  | cons x r ih =>
    intro h
    rw [List.length_cons, seqTo_cons, List.flatMap_cons, List.append_assoc, h x (by simp) _]
    simp only
    rw [ih fun y hy => h y (by simp [hy])]
theorem tofR_of (texts : List ByteArray) (x : ByteArray) (D : List UInt8) (hg : texts[placeOf texts x]? = some x) (hl : texts.length ≤ 1000) : tofR texts (BA (Pl.varint (placeOf texts x) ++ D), 0) = (x, (BA D, 0)) := by
  have hlt := (List.getElem?_eq_some_iff.1 hg).1
  unfold tofR
  simp only
  rw [numR_of (placeOf texts x) D ((texts.length : Int) - 1) 0 (by omega) (by omega)]
  simp only
  rw [if_neg (by decide), List.getD_eq_getElem?_getD, hg]
  rfl
theorem labR_of (texts : List ByteArray) (x : Lab) (D : List UInt8) (h1 : texts[placeOf texts x.1]? = some x.1) (h2 : texts[placeOf texts x.2]? = some x.2) (hl : texts.length ≤ 1000) :
    labR texts (BA ((Pl.varint (placeOf texts x.1) ++ Pl.varint (placeOf texts x.2)) ++ D), 0) = (x, (BA D, 0)) := by
  unfold labR
  rw [List.append_assoc, tofR_of texts x.1 _ h1 hl]
  simp only
  rw [tofR_of texts x.2 _ h2 hl]
theorem labsR_of (texts : List ByteArray) (l : List Lab) (D : List UInt8) (h : ∀ x ∈ l, texts[placeOf texts x.1]? = some x.1 ∧ texts[placeOf texts x.2]? = some x.2) (hl : texts.length ≤ 1000) (h4 : l.length ≤ 4) :
    labsR texts (BA (Pl.varint l.length ++ (labelsBytes texts l ++ D)), 0) = (l, (BA D, 0)) := by
  unfold labsR
  simp only
  rw [numR_of l.length _ 4 0 (by omega) (by omega)]
  exact seqTo_of (labR texts) (fun x => Pl.varint (placeOf texts x.1) ++ Pl.varint (placeOf texts x.2)) D l fun x hx E => labR_of texts x E (h x hx).1 (h x hx).2 hl
theorem samplesR_of (x : Int × Nat) (r : List (Int × Nat)) (D : List UInt8) (hn : (x :: r).length ≤ 40) (hwf : ∀ y ∈ x :: r, -9223372036854775808 ≤ y.1 ∧ y.1 ≤ 9223372036854775807 ∧ y.2 ≤ 18446744073709551615) :
    samplesR (BA (Pl.varint (x :: r).length ++ (Pl.varint (chunkBytes (x :: r)).length ++ (chunkBytes (x :: r) ++ D))), 0) = (x :: r, (BA D, 0)) := by
  have hc := chunk_of x r hwf
  have hlen := chunkBytes_len (x :: r) (by omega)
  have hlen' : (chunkBytes (x :: r)).length ≤ 6000 := hlen
  unfold samplesR
  simp only
  rw [numR_of (x :: r).length _ 40 0 (by omega) (by omega)]
  simp only
  rw [textR_of (chunkBytes (x :: r)) D _ 0 (by omega) (by rw [BA_size, List.length_append, List.length_append]; omega)]
  simp only
  have hch : chunkR (BA (chunkBytes (x :: r))) (x :: r).length = seqU (packed (chunkBits (x :: r))) (firstU (packed (chunkBits (x :: r)))) r.length := rfl
  rw [if_neg (by simp), hch, hc.1, hc.2, if_neg (by decide)]
theorem serR_of (texts : List ByteArray) (s : Ser) (D : List UInt8) (h : ∀ x ∈ s.1, texts[placeOf texts x.1]? = some x.1 ∧ texts[placeOf texts x.2]? = some x.2) (hl : texts.length ≤ 1000) (h4 : s.1.length ≤ 4) (h0 : s.2 ≠ []) (h40 : s.2.length ≤ 40)
    (hwf : ∀ y ∈ s.2, -9223372036854775808 ≤ y.1 ∧ y.1 ≤ 9223372036854775807 ∧ y.2 ≤ 18446744073709551615) : serR texts (BA (seriesBytes texts s.1 s.2 ++ D), 0) = (s, (BA D, 0)) := by
  obtain ⟨l, m⟩ := s
  cases m with
  | nil => exact absurd rfl h0
  | cons x r =>
    unfold serR seriesBytes
    simp only [List.append_assoc]
    rw [labsR_of texts l _ h hl h4]
    simp only
    rw [samplesR_of x r D h40 hwf]
theorem textsR_of (texts : List ByteArray) (D : List UInt8) (hl : texts.length ≤ 64) (h16 : ∀ x ∈ texts, x.size ≤ 16) : textsR (BA (Pl.varint texts.length ++ (textsBytes texts ++ D)), 0) = (texts, (BA D, 0)) := by
  unfold textsR
  simp only
  rw [numR_of texts.length _ 64 0 (by omega) (by omega)]
  refine seqTo_of (fun s : Rest => textR s.1 16 s.2) (fun x => Pl.varint x.size ++ x.data.toList) D texts fun x hx E => ?_
  have hs : x.data.toList.length = x.size := by simp
  have h1 := h16 x hx
  have h2 := textR_of x.data.toList E 16 0 (by omega) (by omega)
  rw [hs, BA_of] at h2
  simp only [List.append_assoc]
  exact h2
/-- What is packed is read. -/
theorem payR_of (bs : List Ser) (h1 : BatchOk bs) (h2 : LimitsOk bs) (hr : InRange bs) : payR (BA (payload bs)) = (bs, (BA [], 0)) := by
  have hF := fits_of h1 h2
  have hsm := allTexts_small bs hF
  have hts := texts_sorted (allTexts bs)
  have hlen := sortedTexts_len (allTexts bs)
  have hin : ∀ s ∈ bs, ∀ x ∈ s.1, (sortedTexts (allTexts bs))[placeOf (sortedTexts (allTexts bs)) x.1]? = some x.1 ∧ (sortedTexts (allTexts bs))[placeOf (sortedTexts (allTexts bs)) x.2]? = some x.2 := fun s hs x hx => by
    have m : ∀ y, y = x.1 ∨ y = x.2 → y ∈ allTexts bs := fun y hy => by
      refine List.mem_flatMap.2 ⟨s, hs, List.mem_flatMap.2 ⟨x, hx, ?_⟩⟩
      rcases hy with rfl | rfl <;> simp
    exact ⟨place_of _ hts.1 _ (hts.2 _ (m _ (.inl rfl))), place_of _ hts.1 _ (hts.2 _ (m _ (.inr rfl)))⟩
  have h16 : ∀ x ∈ sortedTexts (allTexts bs), x.size ≤ 16 := fun x hx => hsm.2 x (sortedTexts_mem hx)
  have hl64 : (sortedTexts (allTexts bs)).length ≤ 64 := by omega
  unfold payR payload
  generalize sortedTexts (allTexts bs) = texts at *
  simp only [List.append_assoc]
  rw [textsR_of texts _ hl64 h16]
  simp only
  rw [numR_of bs.length _ 8 0 (by have := hF.series; omega) (by have := hF.series; omega)]
  simp only
  have := seqTo_of (serR texts) (fun s => seriesBytes texts s.1 s.2) [] bs fun s hs E => serR_of texts s E (hin s hs) (by omega) (hF.labels s hs) (hF.samples s hs).1 (hF.samples s hs).2 (hr s hs)
  rw [List.append_nil] at this
  exact this
theorem frame_is (bs : List Ser) (h1 : BatchOk bs) (h2 : LimitsOk bs) (hr : InRange bs) : IsFrame (frameOf (payload bs)) ∧ got (frameOf (payload bs)) = bs := by
  have hp := payload_bounds (fits_of h1 h2)
  obtain ⟨ho, hi⟩ := opens_of (payload bs) (by omega)
  have hq := payR_of bs h1 h2 hr
  have hg : got (frameOf (payload bs)) = bs := by unfold got; rw [hi, hq]
  refine ⟨⟨ho, by rw [hi, hq], by rw [hg]; exact h1, by rw [hg]; exact h2, by rw [hg, hi]⟩, hg⟩
end Go.Proofs.YtamcclcbmenjdaaGreatDoor

/- A block that is known whole; rows of pairs; copy of pairs. -/
namespace Go.Proofs.YtamcclcbmenjdaaGreatDoor
open Go.RowKit Go.Lib

/-- Block g holds just these cells, and may be written. -/
def Blk (w : World) (g T : Nat) (xs : List Value) : Prop := w.heap[g]? = some (.cells xs.toArray T (0, 0))
theorem Blk.lt {w : World} {g T : Nat} {xs : List Value} (h : Blk w g T xs) : g < w.heap.size := (Array.getElem?_eq_some_iff.1 h).1
theorem Blk.cell {w : World} {g T : Nat} {xs : List Value} (h : Blk w g T xs) {i : Nat} {v : Value} (hi : xs[i]? = some v) : w.cell? ⟨g, i, none⟩ = some v := by
  unfold Blk at h
  simp only [World.cell?, h]
  simpa using hi
theorem Blk.frozen {w : World} {g T : Nat} {xs : List Value} (h : Blk w g T xs) (i : Nat) : w.frozen? ⟨g, i, none⟩ = false := by
  unfold Blk at h
  simp [World.frozen?, h]
theorem Blk.kept {w w' : World} {g T : Nat} {xs : List Value} (h : Blk w g T xs) (hk : w'.heap[g]? = w.heap[g]?) : Blk w' g T xs := hk.trans h
theorem Blk.below {w w' : World} {g T B : Nat} {xs : List Value} (h : Blk w g T xs) (hb : Below B w w') (hg : g < B) : Blk w' g T xs := h.kept (hb.block g hg)
theorem Blk.alloc {w : World} {g T : Nat} {xs : List Value} (h : Blk w g T xs) (o : Obj) : Blk (w.alloc o) g T xs := h.kept (heap_alloc_old w o h.lt)
theorem Blk.drewN {w : World} {g T : Nat} {xs : List Value} (h : Blk w g T xs) (q : Nat) : Blk (w.drewN q) g T xs := h.kept ((below_drewN (Below.refl w.heap.size w) q).block g h.lt)
theorem Blk.other {w : World} {g T k i : Nat} {xs : List Value} (h : Blk w g T xs) (hk : g ≠ k) (v : Value) : Blk (w.setCell ⟨k, i, none⟩ v) g T xs := h.kept (Below.heap_setCell w ⟨k, i, none⟩ v g hk)
theorem Blk.set {w : World} {g T : Nat} {xs : List Value} (h : Blk w g T xs) (i : Nat) (v : Value) : Blk (w.setCell ⟨g, i, none⟩ v) g T (xs.set i v) := by
  rw [setCell_eq_setRow w g i xs.toArray T (0, 0) v h, List.setIfInBounds_toArray]
  have := setRow_heap w g xs.toArray (xs.toArray.setIfInBounds i v) T (0, 0) h
  rw [List.setIfInBounds_toArray] at this
  exact this
theorem Blk.new (w : World) (T : Nat) (xs : List Value) : Blk (w.alloc (.cells xs.toArray T)) w.heap.size T xs := heap_alloc_new w _

/- Rows of pairs. -/
theorem serCells_length (l : List (Value × Value)) : (serCells l).length = 2 * l.length := by
  induction l with
  | nil => rfl
  | cons x r ih => simp only [serCells, List.flatMap_cons, List.length_append, List.length_cons, List.length_nil] at ih ⊢; omega
theorem serCells_get {l : List (Value × Value)} {i : Nat} {p : Value × Value} (h : l[i]? = some p) : (serCells l)[i * 2]? = some p.1 ∧ (serCells l)[i * 2 + 1]? = some p.2 :=
  pair_get (fun x : Value × Value => x.1) (fun x => x.2) l i p h
theorem serCells_set1 (v : Value) : ∀ (l : List (Value × Value)) (i : Nat) (p : Value × Value), l[i]? = some p → (serCells l).set (i * 2) v = serCells (l.set i (v, p.2))
  | [], _, _, h => by simp at h
  | a :: r, 0, p, h => by simp at h; subst h; simp [serCells]
  | a :: r, i + 1, p, h => by
    simp only [List.getElem?_cons_succ] at h
    have ih := serCells_set1 v r i p h
    rw [show (i + 1) * 2 = i * 2 + 1 + 1 by omega]
    show (a.1 :: a.2 :: serCells r).set (i * 2 + 1 + 1) v = a.1 :: a.2 :: serCells (r.set i (v, p.2))
    rw [List.set_cons_succ, List.set_cons_succ, ih]
theorem serCells_set2 (v : Value) : ∀ (l : List (Value × Value)) (i : Nat) (p : Value × Value), l[i]? = some p → (serCells l).set (i * 2 + 1) v = serCells (l.set i (p.1, v))
  | [], _, _, h => by simp at h
  | a :: r, 0, p, h => by simp at h; subst h; simp [serCells]
  | a :: r, i + 1, p, h => by
    simp only [List.getElem?_cons_succ] at h
    have ih := serCells_set2 v r i p h
    rw [show (i + 1) * 2 + 1 = i * 2 + 1 + 1 + 1 by omega]
    show (a.1 :: a.2 :: serCells r).set (i * 2 + 1 + 1 + 1) v = a.1 :: a.2 :: serCells (r.set i (p.1, v))
    rw [List.set_cons_succ, List.set_cons_succ, ih]
theorem serCells_set {w : World} {g T : Nat} {l : List (Value × Value)} (h : Blk w g T (serCells l)) (i : Nat) {p : Value × Value} (hp : l[i]? = some p) (v : Value) :
    Blk (w.setCell ⟨g, i * 2, none⟩ v) g T (serCells (l.set i (v, p.2))) ∧ Blk (w.setCell ⟨g, i * 2 + 1, none⟩ v) g T (serCells (l.set i (p.1, v))) := by
  rw [← serCells_set1 v l i p hp, ← serCells_set2 v l i p hp]
  exact ⟨h.set _ _, h.set _ _⟩
theorem serCells_app (a b : List (Value × Value)) : serCells (a ++ b) = serCells a ++ serCells b := by simp [serCells]
theorem serCells_rep (z : Value × Value) : ∀ n, serCells (List.replicate n z) = (madeCells #[z.1, z.2] (n * 2)).toList
  | 0 => by simp [serCells, madeCells]
  | n + 1 => by
    rw [List.replicate_succ', serCells_app, serCells_rep z n]
    apply List.ext_getElem?
    intro i
    simp only [madeCells, Array.toList_map, Array.toList_range, serCells]
    by_cases h : i < n * 2
    · rw [List.getElem?_append_left (by simpa using h)]
      simp [h, show i < (n + 1) * 2 by omega]
    · rw [List.getElem?_append_right (by simpa using h)]
      by_cases h2 : i < (n + 1) * 2
      · have e : i = n * 2 ∨ i = n * 2 + 1 := by omega
        rcases e with rfl | rfl
        · simp [show n * 2 < (n + 1) * 2 by omega]
        · simp [show n * 2 + 1 < (n + 1) * 2 by omega, Nat.add_mod]
      · simp [h2, show ¬ i - n * 2 < 2 by omega]
theorem serCells_rep_arr (z : Value × Value) (n : Nat) : (serCells (List.replicate n z)).toArray = madeCells #[z.1, z.2] (n * 2) := by rw [serCells_rep, Array.toArray_toList]
/-- A list with eight places more. -/
def roomP (ps : List (Value × Value)) (x z : Value × Value) (j : Nat) : List (Value × Value) := ps ++ (List.replicate j x ++ List.replicate (8 - j) z)
theorem roomP_length (ps : List (Value × Value)) (x z : Value × Value) (j : Nat) (h : j ≤ 8) : (roomP ps x z j).length = ps.length + 8 := by simp [roomP]; omega
theorem roomP_get (ps : List (Value × Value)) (x z : Value × Value) (j : Nat) (h : j < 8) : (roomP ps x z j)[ps.length + j]? = some z := by
  unfold roomP
  rw [List.getElem?_append_right (by omega), List.getElem?_append_right (by simp), List.length_replicate, List.getElem?_replicate, if_pos (by omega)]
theorem roomP_set (ps : List (Value × Value)) (x z : Value × Value) (j : Nat) (h : j < 8) : (roomP ps x z j).set (ps.length + j) x = roomP ps x z (j + 1) := by
  unfold roomP
  rw [List.set_append_right _ _ (by omega), List.set_append_right _ _ (by simp), show 8 - j = (8 - (j + 1)) + 1 by omega, List.replicate_succ]
  simp [List.replicate_succ']
theorem roomP_front (ps : List (Value × Value)) (x z : Value × Value) (j : Nat) {i : Nat} {p : Value × Value} (h : ps[i]? = some p) : (roomP ps x z j)[i]? = some p := by
  unfold roomP
  rw [List.getElem?_append_left (List.getElem?_eq_some_iff.1 h).1]; exact h
theorem roomP_back (ps : List (Value × Value)) (x z : Value × Value) {j : Nat} (h : j < 8) : (roomP ps x z 8)[ps.length + j]? = some x := by
  unfold roomP
  rw [List.getElem?_append_right (by omega), List.getElem?_append_left (by simp; omega), List.getElem?_replicate, if_pos (by omega)]

/-- copy of elements of any number of cells. -/
theorem run_copy_rows {P : Program} (w : World) (dT sT ty elem size : Nat) (g o dLen dCap : Nat) (a : Addr) (sLen sCap : Nat) (cur : Array Value) (t : TypeId) (cs : List Value)
    (hu : P.underlying dT = some (.slice elem)) (hs : (P.info? elem).map (·.size) = some size)
    (hg : w.heap[g]? = some (.cells cur t (0, 0))) (hn : cs.length = Nat.min sLen dLen * size)
    (hsrc : ∀ j v, cs[j]? = some v → w.cell? (a.add j) = some v) (hfit : o + cs.length ≤ cur.size) (h1 : ∀ v ∈ cs, v.oneCell' = true) :
    (Builtin.copy_ #[dT, sT] ty #[.slice (some ⟨g, o, none⟩) dLen dCap, .slice (some a) sLen sCap]).run P w =
      .ok (goInt (Nat.min sLen dLen)) (w.setRow g (cur.toList.take o ++ cs ++ cur.toList.drop (o + cs.length)).toArray) := by
  have hl := run_loadCells_list (P := P) w a cs hsrc
  have hst := run_storeCells_at P g o t cs 0 cur w hg (by simpa using hfit) h1
  cases hq : P.info? elem with
  | none => simp [hq] at hs
  | some i =>
    have hi : i.size = size := by simpa [hq] using hs
    simp [Builtin.copy_, run_underlying hu, Builtin.lenOf, Builtin.firstCells, sizeOf, typeInfo, hq, hi, ← hn, hl, hst]
theorem below_setRow (w : World) (g B : Nat) (cur : Array Value) (hg : B ≤ g) : Below B w (w.setRow g cur) := by
  refine ⟨rfl, rfl, rfl, by simp [World.setRow], fun k hk => ?_⟩
  unfold World.setRow
  simp only [Array.getElem?_modify]
  rw [if_neg (by omega)]

def labP (l : List Lab) : List (Value × Value) := l.map fun x => (.string x.1, .string x.2)
def samP (l : List (Int × Nat)) : List (Value × Value) := l.map fun x => (.int .i64 x.1, .int .u64 x.2)
theorem labP_cells (l : List Lab) : serCells (labP l) = labCells l := by simp [serCells, labP, labCells, List.flatMap_map]
theorem samP_cells (l : List (Int × Nat)) : serCells (samP l) = samCells l := by simp [serCells, samP, samCells, List.flatMap_map]
def bey : ByteArray := ⟨#[98, 101, 121, 111, 110, 100]⟩
/-- The slice is nil. -/
def isNil : Value → Bool
  | .slice none _ _ => true
  | _ => false
theorem addr_block (a : Addr) (j : Nat) : (a.add j).block = a.block := by unfold Addr.add; split <;> rfl
theorem getElem?_snoc {α : Type} {l : List α} {a x : α} {i : Nat} (h : (l ++ [a])[i]? = some x) : (i < l.length ∧ l[i]? = some x) ∨ (i = l.length ∧ x = a) := by
  by_cases hi : i < l.length
  · rw [List.getElem?_append_left hi] at h; exact .inl ⟨hi, h⟩
  · have h2 : i < l.length + 1 := by have := (List.getElem?_eq_some_iff.1 h).1; simpa using this
    obtain rfl : i = l.length := by omega
    rw [List.getElem?_append_right (Nat.le_refl _), Nat.sub_self] at h
    exact .inr ⟨rfl, by simpa using h.symm⟩
end Go.Proofs.YtamcclcbmenjdaaGreatDoor

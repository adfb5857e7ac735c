/- 'choirkeep.Level', for any list of steps (100 of them are done): when all are up, nothing is under way, and each has told each other one, all have the same, and compacted logs are the same bytes. The first form's statement and its card: no condition beside the row's own. -/
import Derived.Test.YtamcclcbmenjdaaGreatDoorLevelG6
import Derived.Test.YtamcclcbmenjdaaGreatDoorLevelG19
import Derived.Test.YtamcclcbmenjdaaGreatDoorLevelG4
import Derived.Deep.Slices
import Derived.Deep.Strs
import Derived.OpenShut
import Derived.SizedLaws
import Derived.ProofKit
/- A chunk, the texts in their order, a payload: what is packed is read again, and a batch has one frame: pure. -/
namespace Go.Proofs.YtamcclcbmenjdaaGreatDoor

theorem timeU_of (A C : List Bool) (u : US) (time : Nat) (hp : u.pos = A.length) (ht : u.t < 18446744073709551616) (hd : u.d < 18446744073709551616) (hm : time < 18446744073709551616) :
    timeU (packed (A ++ (timeBits u.t u.d time ++ C))) u = { u with pos := A.length + (timeBits u.t u.d time).length, t := time, d := sub64 time u.t } := by
  have h1 : sub64 time u.t < 18446744073709551616 := by unfold sub64; omega
  have h2 : sub64 (sub64 time u.t) u.d < 18446744073709551616 := by unfold sub64; omega
  have e1 := add_sub64 time u.t hm ht
  have e2 := add_sub64 (sub64 time u.t) u.d h1 hd
  unfold timeU timeBits
  generalize sub64 (sub64 time u.t) u.d = e at *
  generalize sub64 time u.t = d at *
  have hw := way_width e
  have hs := sub_add64 e (stepShift (stepWay e)) h2 (stepShift_lt _)
  have hle := stepWay_le e
  generalize add64 e (stepShift (stepWay e)) = x at *
  generalize stepWay e = k at *
  have hk := mk_packed k 4 u.st (Pl.bitsOf x (stepWidth k) ++ C) hle A
  have ht := tk_packed (A ++ markOf k 4) C x (stepWidth k) u.st
  rw [List.append_assoc] at ht
  rw [hp, List.append_assoc, hk]
  simp only
  rw [← List.length_append, ht]
  simp only
  rw [hw, hs, e2, e1]
  simp [Pl.bitsOf_length, Nat.add_assoc]
theorem lt_of_lz (x a : Nat) (hx : x < 2 ^ 64) (h : a ≤ lz x) : x < 2 ^ (64 - a) := by
  have h1 : x < 2 ^ Lib.bitLen x := bitLenAux_lt 64 x hx
  have h2 : Lib.bitLen x ≤ 64 := bitLenAux_le 64 x
  unfold lz at h
  exact Nat.lt_of_lt_of_le h1 (Nat.pow_le_pow_right (by decide) (by omega))
theorem dvd_of_tz (x k : Nat) (hx : x < 2 ^ 64) (h0 : x ≠ 0) (h : k ≤ tz x) : x % 2 ^ k = 0 := by
  obtain ⟨m, hm, _⟩ := Lib.ctzFrom_spec 64 x (by omega) hx
  have e : tz x = Lib.ctzFrom 64 x := by unfold tz Lib.ctz; rw [if_neg h0]
  rw [← e] at hm
  rw [hm, show tz x = k + (tz x - k) by omega, Nat.pow_add, Nat.mul_assoc]
  exact Nat.mul_mod_right _ _
theorem window_read (x a z : Nat) (hl : x < 2 ^ (64 - a)) (haz : a + z ≤ 64) (hd : x % 2 ^ (64 - a - z) = 0) : x / 2 ^ (64 - a - z) % 2 ^ z * 2 ^ (64 - a - z) = x := by
  have h1 : x / 2 ^ (64 - a - z) < 2 ^ z := by
    rw [Nat.div_lt_iff_lt_mul (Nat.two_pow_pos _), ← Nat.pow_add, show z + (64 - a - z) = 64 - a by omega]; exact hl
  rw [Nat.mod_eq_of_lt h1]
  exact Nat.div_mul_cancel (Nat.dvd_of_mod_eq_zero hd)
theorem xor_back (b y : Nat) : b ^^^ (y ^^^ b) = y := by
  rw [Nat.xor_comm y b, ← Nat.xor_assoc, Nat.xor_self, Nat.zero_xor]
theorem inU_of (A C : List Bool) (u : US) (y : Nat) (hp : u.pos = A.length) (haz : u.a + u.z ≤ 64) (hl : y ^^^ u.b < 2 ^ (64 - u.a)) (hd : (y ^^^ u.b) % 2 ^ (64 - u.a - u.z) = 0) :
    inU (packed (A ++ (Pl.bitsOf ((y ^^^ u.b) / 2 ^ (64 - u.a - u.z)) u.z ++ C))) u = { u with pos := A.length + u.z, b := y } := by
  unfold inU
  rw [hp, tk_packed]
  simp only
  rw [window_read _ _ _ hl haz hd, xor_back]
theorem winU_of (A C : List Bool) (u : US) (a z : Nat) (hp : u.pos = A.length) (ha : a ≤ 31) (hz : 1 ≤ z) (haz : a + z ≤ 64) :
    winU (packed (A ++ (winBits a z ++ C))) u = { u with pos := A.length + 11, a := a, z := z } := by
  unfold winU winBits
  have h1 := tk_packed A (Pl.bitsOf (z - 1) 6 ++ C) a 5 u.st
  have h2 := tk_packed (A ++ Pl.bitsOf a 5) C (z - 1) 6 u.st
  rw [List.append_assoc, List.length_append, Pl.bitsOf_length] at h2
  rw [hp, List.append_assoc, h1]
  simp only
  rw [h2]
  simp only
  have e1 : a % 2 ^ 5 = a := Nat.mod_eq_of_lt (by omega)
  have e2 : (z - 1) % 2 ^ 6 + 1 = z := by rw [Nat.mod_eq_of_lt (by omega)]; omega
  rw [e1, e2, if_pos haz]
theorem bitU_of (A C : List Bool) (u : US) (y : Nat) (hp : u.pos = A.length) (haz : u.a + u.z ≤ 64) (hy : y < 2 ^ 64) (hb : u.b < 2 ^ 64) :
    bitU (packed (A ++ (bitBits u.a u.z (y ^^^ u.b) ++ C))) u = { u with pos := A.length + (bitBits u.a u.z (y ^^^ u.b)).length, b := y, a := nextA u.a u.z (y ^^^ u.b), z := nextZ u.a u.z (y ^^^ u.b) } := by
  have hx : y ^^^ u.b < 2 ^ 64 := Nat.xor_lt_two_pow hy hb
  by_cases h0 : y ^^^ u.b = 0
  · have hyb : y = u.b := by
      have := xor_back u.b y
      rw [h0, Nat.xor_zero] at this; exact this.symm
    have hw : wayOf u.a u.z (y ^^^ u.b) = 0 := by unfold wayOf; rw [if_pos h0]
    have hm := mk_packed 0 2 u.st C (by omega) A
    unfold bitU bitBits nextA nextZ
    rw [hw, if_pos rfl, hp, hm]
    simp [hyb]
  · by_cases hh : holdsB u.a u.z (y ^^^ u.b) = true
    · have hw : wayOf u.a u.z (y ^^^ u.b) = 1 := by unfold wayOf; rw [if_neg h0, if_pos hh]
      unfold holdsB at hh
      simp only [Bool.and_eq_true, decide_eq_true_eq] at hh
      have hl := lt_of_lz _ u.a hx hh.2.1
      have hd := dvd_of_tz _ (64 - u.a - u.z) hx h0 (by omega)
      have hbb : bitBits u.a u.z (y ^^^ u.b) = markOf 1 2 ++ Pl.bitsOf ((y ^^^ u.b) / 2 ^ (64 - u.a - u.z)) u.z := by unfold bitBits; rw [hw]; simp
      have hna : nextA u.a u.z (y ^^^ u.b) = u.a := by unfold nextA; rw [hw]; simp
      have hnz : nextZ u.a u.z (y ^^^ u.b) = u.z := by unfold nextZ; rw [hw]; simp
      rw [hbb, hna, hnz]
      unfold bitU
      generalize hX : (y ^^^ u.b) / 2 ^ (64 - u.a - u.z) = X at *
      have hm := mk_packed 1 2 u.st (Pl.bitsOf X u.z ++ C) (by omega) A
      have hi := inU_of (A ++ markOf 1 2) C { u with pos := A.length + (markOf 1 2).length, st := u.st } y (by simp) haz hl hd
      simp only at hi
      rw [hX, List.append_assoc] at hi
      rw [hp, List.append_assoc, hm]
      simp only
      rw [if_neg (by decide), if_neg (by decide), hi]
      simp [Pl.bitsOf_length, Nat.add_assoc]
    · have hw : wayOf u.a u.z (y ^^^ u.b) = 2 := by unfold wayOf; rw [if_neg h0, if_neg hh]
      obtain ⟨n1, n2, n3, n4⟩ := new_bounds _ h0 hx
      have hl := lt_of_lz _ (newAhead (y ^^^ u.b)) hx (by unfold newAhead; omega)
      have hd := dvd_of_tz _ (64 - newAhead (y ^^^ u.b) - newSize (y ^^^ u.b)) hx h0 (by omega)
      have hbb : bitBits u.a u.z (y ^^^ u.b) = markOf 2 2 ++ winBits (newAhead (y ^^^ u.b)) (newSize (y ^^^ u.b)) ++ Pl.bitsOf ((y ^^^ u.b) / 2 ^ (64 - newAhead (y ^^^ u.b) - newSize (y ^^^ u.b))) (newSize (y ^^^ u.b)) := by unfold bitBits; rw [hw]; simp
      have hna : nextA u.a u.z (y ^^^ u.b) = newAhead (y ^^^ u.b) := by unfold nextA; rw [hw]; simp
      have hnz : nextZ u.a u.z (y ^^^ u.b) = newSize (y ^^^ u.b) := by unfold nextZ; rw [hw]; simp
      rw [hbb, hna, hnz]
      unfold bitU
      generalize hX : (y ^^^ u.b) / 2 ^ (64 - newAhead (y ^^^ u.b) - newSize (y ^^^ u.b)) = X at *
      generalize newAhead (y ^^^ u.b) = a at *
      generalize newSize (y ^^^ u.b) = z at *
      have hm := mk_packed 2 2 u.st (winBits a z ++ (Pl.bitsOf X z ++ C)) (by omega) A
      have hn := winU_of (A ++ markOf 2 2) (Pl.bitsOf X z ++ C) { u with pos := A.length + (markOf 2 2).length, st := u.st } a z (by simp) n1 n3 (by omega)
      have hi := inU_of (A ++ markOf 2 2 ++ winBits a z) C { u with pos := (A ++ markOf 2 2).length + 11, a := a, z := z } y (by simp [winBits, Pl.bitsOf_length]; omega) (by show a + z ≤ 64; omega) hl hd
      simp only at hi hn
      rw [hX] at hi
      simp only [List.append_assoc] at hi hn hm ⊢
      rw [hp, hm]
      simp only
      rw [if_neg (by decide), if_pos trivial, hn, hi]
      simp [Pl.bitsOf_length, winBits, Nat.add_assoc]; omega
theorem toI_u64 (t : Int) (h1 : -9223372036854775808 ≤ t) (h2 : t ≤ 9223372036854775807) : toI (u64 t) = t := by
  unfold toI u64; split <;> omega
theorem seqU_cons (s : ByteArray) (u : US) (n : Nat) : seqU s u (n + 1) = (samU u :: (seqU s (stepU s u) n).1, (seqU s (stepU s u) n).2) := by
  induction n with
  | zero => rfl
  | succ n ih => rw [seqU, ih]; simp [seqU]
theorem seqU_of (r : List (Int × Nat)) : ∀ (A : List Bool) (u : US), u.pos = A.length → u.t < 18446744073709551616 → u.d < 18446744073709551616 → u.b < 2 ^ 64 → u.a + u.z ≤ 64 →
    (∀ x ∈ r, -9223372036854775808 ≤ x.1 ∧ x.1 ≤ 9223372036854775807 ∧ x.2 ≤ 18446744073709551615) →
    (seqU (packed (A ++ goBits u.t u.d u.b u.a u.z r)) u r.length).1 = samU u :: r ∧ (seqU (packed (A ++ goBits u.t u.d u.b u.a u.z r)) u r.length).2.st = u.st := by
  induction r with
  | nil => intro A u _ _ _ _ _ _; exact ⟨rfl, rfl⟩
  | cons x r ih =>
    intro A u hp ht hd hb haz hwf
    have hx := hwf x (by simp)
    have htm : u64 x.1 < 18446744073709551616 := by have := u64_le x.1; omega
    have hx2 : x.2 < 2 ^ 64 := by omega
    rw [List.length_cons, seqU_cons, goBits]
    have h1 := timeU_of A (bitBits u.a u.z (x.2 ^^^ u.b) ++ goBits (u64 x.1) (sub64 (u64 x.1) u.t) x.2 (nextA u.a u.z (x.2 ^^^ u.b)) (nextZ u.a u.z (x.2 ^^^ u.b)) r) u (u64 x.1) hp ht hd htm
    have h2 := bitU_of (A ++ timeBits u.t u.d (u64 x.1)) (goBits (u64 x.1) (sub64 (u64 x.1) u.t) x.2 (nextA u.a u.z (x.2 ^^^ u.b)) (nextZ u.a u.z (x.2 ^^^ u.b)) r)
      { u with pos := A.length + (timeBits u.t u.d (u64 x.1)).length, t := u64 x.1, d := sub64 (u64 x.1) u.t } x.2 (by simp) haz hx2 hb
    have hn := next_bounds u.a u.z (x.2 ^^^ u.b) haz (Nat.xor_lt_two_pow hx2 hb)
    have hs1 : sub64 (u64 x.1) u.t < 18446744073709551616 := by unfold sub64; omega
    have h3 := ih (A ++ timeBits u.t u.d (u64 x.1) ++ bitBits u.a u.z (x.2 ^^^ u.b)) ⟨(A ++ timeBits u.t u.d (u64 x.1) ++ bitBits u.a u.z (x.2 ^^^ u.b)).length, u.st, u64 x.1, sub64 (u64 x.1) u.t, x.2, nextA u.a u.z (x.2 ^^^ u.b), nextZ u.a u.z (x.2 ^^^ u.b)⟩
      rfl htm hs1 hx2 hn (fun y hy => hwf y (by simp [hy]))
    simp only at h1 h2 h3
    generalize goBits (u64 x.1) (sub64 (u64 x.1) u.t) x.2 (nextA u.a u.z (x.2 ^^^ u.b)) (nextZ u.a u.z (x.2 ^^^ u.b)) r = G at *
    have hst : stepU (packed (A ++ (timeBits u.t u.d (u64 x.1) ++ bitBits u.a u.z (x.2 ^^^ u.b) ++ G))) u = ⟨(A ++ timeBits u.t u.d (u64 x.1) ++ bitBits u.a u.z (x.2 ^^^ u.b)).length, u.st, u64 x.1, sub64 (u64 x.1) u.t, x.2, nextA u.a u.z (x.2 ^^^ u.b), nextZ u.a u.z (x.2 ^^^ u.b)⟩ := by
      unfold stepU
      simp only [List.append_assoc] at h1 h2 ⊢
      rw [h1, h2]
      simp [Nat.add_assoc]
    simp only [List.append_assoc] at h3 hst ⊢
    rw [hst, h3.1, h3.2]
    have : samU ⟨(A ++ (timeBits u.t u.d (u64 x.1) ++ bitBits u.a u.z (x.2 ^^^ u.b))).length, u.st, u64 x.1, sub64 (u64 x.1) u.t, x.2, nextA u.a u.z (x.2 ^^^ u.b), nextZ u.a u.z (x.2 ^^^ u.b)⟩ = x := by
      unfold samU; rw [toI_u64 x.1 hx.1 hx.2.1]
    rw [this]
    exact ⟨rfl, rfl⟩
theorem chunk_of (x : Int × Nat) (r : List (Int × Nat)) (hwf : ∀ y ∈ x :: r, -9223372036854775808 ≤ y.1 ∧ y.1 ≤ 9223372036854775807 ∧ y.2 ≤ 18446744073709551615) :
    (seqU (packed (chunkBits (x :: r))) (firstU (packed (chunkBits (x :: r)))) r.length).1 = x :: r ∧ (seqU (packed (chunkBits (x :: r))) (firstU (packed (chunkBits (x :: r)))) r.length).2.st = 0 := by
  have hx := hwf x (by simp)
  have htm : u64 x.1 < 18446744073709551616 := by have := u64_le x.1; omega
  have hx2 : x.2 < 2 ^ 64 := by omega
  have hf : firstU (packed (chunkBits (x :: r))) = ⟨128, 0, u64 x.1, 0, x.2, 0, 0⟩ := by
    have h1 := tk_packed [] (Pl.bitsOf x.2 64 ++ goBits (u64 x.1) 0 x.2 0 0 r) (u64 x.1) 64 0
    have h2 := tk_packed (Pl.bitsOf (u64 x.1) 64) (goBits (u64 x.1) 0 x.2 0 0 r) x.2 64 0
    rw [List.nil_append, List.length_nil, Nat.zero_add, Nat.mod_eq_of_lt htm] at h1
    rw [Pl.bitsOf_length, Nat.mod_eq_of_lt hx2] at h2
    have hc : chunkBits (x :: r) = Pl.bitsOf (u64 x.1) 64 ++ (Pl.bitsOf x.2 64 ++ goBits (u64 x.1) 0 x.2 0 0 r) := by rw [chunkBits, List.append_assoc]
    unfold firstU
    rw [hc, h1]
    simp only
    rw [h2]
  rw [hf]
  have h := seqU_of r (Pl.bitsOf (u64 x.1) 64 ++ Pl.bitsOf x.2 64) ⟨128, 0, u64 x.1, 0, x.2, 0, 0⟩ (by simp [Pl.bitsOf_length]) htm (by show 0 < 18446744073709551616; omega) hx2 (by show 0 + 0 ≤ 64; omega) (fun y hy => hwf y (by simp [hy]))
  simp only at h
  rw [chunkBits, h.1, h.2]
  refine ⟨?_, rfl⟩
  unfold samU
  rw [toI_u64 x.1 hx.1 hx.2.1]
end Go.Proofs.YtamcclcbmenjdaaGreatDoor
namespace Go.Proofs.YtamcclcbmenjdaaGreatDoor
open Go.Lib Go.Sort

theorem get_list (zs : List (List UInt8)) (j : Nat) (hj : j < zs.length) : zs.toArray[j]! = zs[j] := by simp [hj]
theorem compact_sorted (zs : List (List UInt8)) (hs : zs.Pairwise (· ≤ ·)) : (Lib.compact zs).Pairwise (· < ·) ∧ ∀ x ∈ zs, x ∈ Lib.compact zs := by
  have hle : ∀ i j, i ≤ j → j < zs.length → zs.toArray[i]! ≤ zs.toArray[j]! := fun i j hij hj => by
    rw [get_list zs i (by omega), get_list zs j hj]
    by_cases e : i = j
    · subst e; exact List.not_lt.1 (List.lt_irrefl _)
    · exact List.pairwise_iff_getElem.1 hs i j (by omega) hj (by omega)
  have key : ∀ m, m ≤ zs.length → (Lib.compactUpTo zs.toArray m).Pairwise (· < ·) ∧ (∀ j, j < m → zs.toArray[j]! ∈ Lib.compactUpTo zs.toArray m) ∧ ∀ x ∈ Lib.compactUpTo zs.toArray m, ∃ j, j < m ∧ x = zs.toArray[j]! := by
    intro m
    induction m with
    | zero => intro _; exact ⟨by simp [Lib.compactUpTo], fun j hj => by omega, fun x hx => by simp [Lib.compactUpTo] at hx⟩
    | succ m ih =>
      intro hm
      obtain ⟨h1, h2, h3⟩ := ih (by omega)
      rw [Lib.compactUpTo_succ]
      by_cases hk : Lib.keeps zs.toArray m = true
      · rw [if_pos hk]
        refine ⟨?_, fun j hj => ?_, fun x hx => ?_⟩
        · rw [List.pairwise_append]
          refine ⟨h1, List.pairwise_singleton _ _, fun x hx y hy => ?_⟩
          rw [List.mem_singleton.1 hy]
          obtain ⟨j, hj, rfl⟩ := h3 x hx
          have hne : zs.toArray[m]! ≠ zs.toArray[m - 1]! := by
            simp [Lib.keeps] at hk
            rcases hk with h | h
            · omega
            · simpa using h
          exact List.lt_of_le_of_lt (hle j (m - 1) (by omega) (by omega)) (lt_of_le_ne (hle (m - 1) m (by omega) (by omega)) (Ne.symm hne))
        · by_cases e : j = m
          · subst e; simp
          · exact List.mem_append_left _ (h2 j (by omega))
        · rcases List.mem_append.1 hx with hx | hx
          · obtain ⟨j, hj, e⟩ := h3 x hx; exact ⟨j, by omega, e⟩
          · exact ⟨m, by omega, List.mem_singleton.1 hx⟩
      · rw [if_neg hk, List.append_nil]
        have hm0 : 0 < m := by
          rcases Nat.eq_zero_or_pos m with h | h
          · subst h; exact absurd (Lib.keeps_lt_one _ 0 (by omega)) hk
          · exact h
        have heq : zs.toArray[m]! = zs.toArray[m - 1]! := by
          by_cases h : zs.toArray[m]! = zs.toArray[m - 1]!
          · exact h
          · exact absurd (Lib.keeps_pos h) hk
        refine ⟨h1, fun j hj => ?_, fun x hx => by obtain ⟨j, hj, e⟩ := h3 x hx; exact ⟨j, by omega, e⟩⟩
        by_cases e : j = m
        · subst e; rw [heq]; exact h2 _ (by omega)
        · exact h2 j (by omega)
  obtain ⟨h1, h2, _⟩ := key zs.length (Nat.le_refl _)
  refine ⟨h1, fun x hx => ?_⟩
  obtain ⟨j, hj, rfl⟩ := List.mem_iff_getElem.1 hx
  rw [← get_list zs j hj]
  exact h2 j hj
theorem texts_sorted (l : List ByteArray) : (sortedTexts l).Pairwise (fun a b => a.data.toList < b.data.toList) ∧ ∀ x ∈ l, x ∈ sortedTexts l := by
  have hs : ((l.map fun s => s.data.toList).mergeSort fun x y => decide (x ≤ y)).Pairwise (· ≤ ·) := by
    have := List.pairwise_mergeSort (le := fun x y : List UInt8 => decide (x ≤ y)) (fun a b c h1 h2 => by simp at *; exact List.le_trans h1 h2) (fun a b => by simp; exact List.le_total a b) (l.map fun s => s.data.toList)
    exact this.imp fun h => of_decide_eq_true h
  obtain ⟨h1, h2⟩ := compact_sorted _ hs
  unfold sortedTexts
  refine ⟨?_, fun x hx => ?_⟩
  · rw [List.pairwise_map]
    exact h1.imp fun h => by simpa using h
  · refine List.mem_map.2 ⟨x.data.toList, h2 _ (List.mem_mergeSort.2 (List.mem_map.2 ⟨x, hx, rfl⟩)), ?_⟩
    simp
theorem bsGo_in (less : Nat → Bool) (k n : Nat) (h1 : ∀ t, t < k → less t = true) (h2 : ∀ t, k ≤ t → t < n → less t = false) : ∀ (f lo hi : Nat), hi - lo ≤ f → lo ≤ k → k ≤ hi → hi ≤ n → Lib.bsGo less f lo hi = k
  | 0, lo, hi, hf, a, b, _ => by simp [Lib.bsGo]; omega
  | f + 1, lo, hi, hf, a, b, c => by
    unfold Lib.bsGo
    by_cases h : lo < hi
    · rw [if_pos h]
      by_cases hm : (lo + hi) / 2 < k
      · rw [h1 _ hm, if_pos rfl]; exact bsGo_in less k n h1 h2 f _ _ (by omega) (by omega) b c
      · rw [h2 _ (by omega) (by omega)]; exact bsGo_in less k n h1 h2 f _ _ (by omega) a (by omega) (by omega)
    · rw [if_neg h]; omega
theorem place_of (texts : List ByteArray) (hp : texts.Pairwise (fun a b => a.data.toList < b.data.toList)) (x : ByteArray) (hx : x ∈ texts) : texts[placeOf texts x]? = some x := by
  obtain ⟨k, hk, e⟩ := List.mem_iff_getElem.1 hx
  have hg : ∀ t (ht : t < texts.length), (texts.getD t ByteArray.empty).toList = texts[t].data.toList := fun t ht => by
    rw [ByteArray.toList_eq, List.getD_eq_getElem?_getD, List.getElem?_eq_getElem ht]; rfl
  have hk2 : placeOf texts x = k := by
    unfold placeOf
    refine bsGo_in _ k texts.length (fun t ht => ?_) (fun t ht htl => ?_) _ _ _ (by omega) (Nat.zero_le _) (by omega) (Nat.le_refl _)
    · rw [less_eq, hg t (by omega), ByteArray.toList_eq, ← e]
      exact decide_eq_true (List.pairwise_iff_getElem.1 hp t k (by omega) hk ht)
    · rw [less_eq, hg t htl, ByteArray.toList_eq, ← e]
      refine decide_eq_false ?_
      by_cases h : t = k
      · subst h; exact List.lt_irrefl _
      · exact List.lt_asymm (List.pairwise_iff_getElem.1 hp k t hk htl (by omega))
  rw [hk2, List.getElem?_eq_getElem hk, e]
end Go.Proofs.YtamcclcbmenjdaaGreatDoor
namespace Go.Proofs.YtamcclcbmenjdaaGreatDoor

theorem seqTo_cons {α : Type} (f : Rest → α × Rest) (s : Rest) (n : Nat) : seqTo f s (n + 1) = ((f s).1 :: (seqTo f (f s).2 n).1, (seqTo f (f s).2 n).2) := by
  induction n with
  | zero => rfl
  | succ n ih => rw [seqTo, ih]; simp [seqTo]
theorem seqTo_of {α : Type} (f : Rest → α × Rest) (enc : α → List UInt8) (C : List UInt8) : ∀ xs : List α, (∀ x ∈ xs, ∀ D, f (BA (enc x ++ D), 0) = (x, (BA D, 0))) → seqTo f (BA (xs.flatMap enc ++ C), 0) xs.length = (xs, (BA C, 0)) := by
  intro xs
  induction xs with
  | nil => intro _; rfl
  | cons x r ih =>
    intro h
    rw [List.length_cons, seqTo_cons, List.flatMap_cons, List.append_assoc, h x (by simp) _]
    simp only
    rw [ih fun y hy => h y (by simp [hy])]
theorem tofR_of (texts : List ByteArray) (x : ByteArray) (D : List UInt8) (hg : texts[placeOf texts x]? = some x) (hl : texts.length ≤ 1000) : tofR texts (BA (Pl.varint (placeOf texts x) ++ D), 0) = (x, (BA D, 0)) := by
  have hlt := (List.getElem?_eq_some_iff.1 hg).1
  unfold tofR
  simp only
  rw [numR_of (placeOf texts x) D ((texts.length : Int) - 1) 0 (by omega) (by omega)]
  simp only
  rw [if_neg (by decide), List.getD_eq_getElem?_getD, hg]
  rfl
theorem labR_of (texts : List ByteArray) (x : Lab) (D : List UInt8) (h1 : texts[placeOf texts x.1]? = some x.1) (h2 : texts[placeOf texts x.2]? = some x.2) (hl : texts.length ≤ 1000) :
    labR texts (BA ((Pl.varint (placeOf texts x.1) ++ Pl.varint (placeOf texts x.2)) ++ D), 0) = (x, (BA D, 0)) := by
  unfold labR
  rw [List.append_assoc, tofR_of texts x.1 _ h1 hl]
  simp only
  rw [tofR_of texts x.2 _ h2 hl]
theorem labsR_of (texts : List ByteArray) (l : List Lab) (D : List UInt8) (h : ∀ x ∈ l, texts[placeOf texts x.1]? = some x.1 ∧ texts[placeOf texts x.2]? = some x.2) (hl : texts.length ≤ 1000) (h4 : l.length ≤ 4) :
    labsR texts (BA (Pl.varint l.length ++ (labelsBytes texts l ++ D)), 0) = (l, (BA D, 0)) := by
  unfold labsR
  simp only
  rw [numR_of l.length _ 4 0 (by omega) (by omega)]
  exact seqTo_of (labR texts) (fun x => Pl.varint (placeOf texts x.1) ++ Pl.varint (placeOf texts x.2)) D l fun x hx E => labR_of texts x E (h x hx).1 (h x hx).2 hl
theorem samplesR_of (x : Int × Nat) (r : List (Int × Nat)) (D : List UInt8) (hn : (x :: r).length ≤ 40) (hwf : ∀ y ∈ x :: r, -9223372036854775808 ≤ y.1 ∧ y.1 ≤ 9223372036854775807 ∧ y.2 ≤ 18446744073709551615) :
    samplesR (BA (Pl.varint (x :: r).length ++ (Pl.varint (chunkBytes (x :: r)).length ++ (chunkBytes (x :: r) ++ D))), 0) = (x :: r, (BA D, 0)) := by
  have hc := chunk_of x r hwf
  have hlen := chunkBytes_len (x :: r) (by omega)
  have hlen' : (chunkBytes (x :: r)).length ≤ 6000 := hlen
  unfold samplesR
  simp only
  rw [numR_of (x :: r).length _ 40 0 (by omega) (by omega)]
  simp only
  rw [textR_of (chunkBytes (x :: r)) D _ 0 (by omega) (by rw [BA_size, List.length_append, List.length_append]; omega)]
  simp only
  have hch : chunkR (BA (chunkBytes (x :: r))) (x :: r).length = seqU (packed (chunkBits (x :: r))) (firstU (packed (chunkBits (x :: r)))) r.length := rfl
  rw [if_neg (by simp), hch, hc.1, hc.2, if_neg (by decide)]
theorem serR_of (texts : List ByteArray) (s : Ser) (D : List UInt8) (h : ∀ x ∈ s.1, texts[placeOf texts x.1]? = some x.1 ∧ texts[placeOf texts x.2]? = some x.2) (hl : texts.length ≤ 1000) (h4 : s.1.length ≤ 4) (h0 : s.2 ≠ []) (h40 : s.2.length ≤ 40)
    (hwf : ∀ y ∈ s.2, -9223372036854775808 ≤ y.1 ∧ y.1 ≤ 9223372036854775807 ∧ y.2 ≤ 18446744073709551615) : serR texts (BA (seriesBytes texts s.1 s.2 ++ D), 0) = (s, (BA D, 0)) := by
  obtain ⟨l, m⟩ := s
  cases m with
  | nil => exact absurd rfl h0
  | cons x r =>
    unfold serR seriesBytes
    simp only [List.append_assoc]
    rw [labsR_of texts l _ h hl h4]
    simp only
    rw [samplesR_of x r D h40 hwf]
theorem textsR_of (texts : List ByteArray) (D : List UInt8) (hl : texts.length ≤ 64) (h16 : ∀ x ∈ texts, x.size ≤ 16) : textsR (BA (Pl.varint texts.length ++ (textsBytes texts ++ D)), 0) = (texts, (BA D, 0)) := by
  unfold textsR
  simp only
  rw [numR_of texts.length _ 64 0 (by omega) (by omega)]
  refine seqTo_of (fun s : Rest => textR s.1 16 s.2) (fun x => Pl.varint x.size ++ x.data.toList) D texts fun x hx E => ?_
  have hs : x.data.toList.length = x.size := by simp
  have h1 := h16 x hx
  have h2 := textR_of x.data.toList E 16 0 (by omega) (by omega)
  rw [hs, BA_of] at h2
  simp only [List.append_assoc]
  exact h2
/-- What is packed is read. -/
theorem payR_of (bs : List Ser) (h1 : BatchOk bs) (h2 : LimitsOk bs) (hr : InRange bs) : payR (BA (payload bs)) = (bs, (BA [], 0)) := by
  have hF := fits_of h1 h2
  have hsm := allTexts_small bs hF
  have hts := texts_sorted (allTexts bs)
  have hlen := sortedTexts_len (allTexts bs)
  have hin : ∀ s ∈ bs, ∀ x ∈ s.1, (sortedTexts (allTexts bs))[placeOf (sortedTexts (allTexts bs)) x.1]? = some x.1 ∧ (sortedTexts (allTexts bs))[placeOf (sortedTexts (allTexts bs)) x.2]? = some x.2 := fun s hs x hx => by
    have m : ∀ y, y = x.1 ∨ y = x.2 → y ∈ allTexts bs := fun y hy => by
      refine List.mem_flatMap.2 ⟨s, hs, List.mem_flatMap.2 ⟨x, hx, ?_⟩⟩
      rcases hy with rfl | rfl <;> simp
    exact ⟨place_of _ hts.1 _ (hts.2 _ (m _ (.inl rfl))), place_of _ hts.1 _ (hts.2 _ (m _ (.inr rfl)))⟩
  have h16 : ∀ x ∈ sortedTexts (allTexts bs), x.size ≤ 16 := fun x hx => hsm.2 x (sortedTexts_mem hx)
  have hl64 : (sortedTexts (allTexts bs)).length ≤ 64 := by omega
  unfold payR payload
  generalize sortedTexts (allTexts bs) = texts at *
  simp only [List.append_assoc]
  rw [textsR_of texts _ hl64 h16]
  simp only
  rw [numR_of bs.length _ 8 0 (by have := hF.series; omega) (by have := hF.series; omega)]
  simp only
  have := seqTo_of (serR texts) (fun s => seriesBytes texts s.1 s.2) [] bs fun s hs E => serR_of texts s E (hin s hs) (by omega) (hF.labels s hs) (hF.samples s hs).1 (hF.samples s hs).2 (hr s hs)
  rw [List.append_nil] at this
  exact this
theorem frame_is (bs : List Ser) (h1 : BatchOk bs) (h2 : LimitsOk bs) (hr : InRange bs) : IsFrame (frameOf (payload bs)) ∧ got (frameOf (payload bs)) = bs := by
  have hp := payload_bounds (fits_of h1 h2)
  obtain ⟨ho, hi⟩ := opens_of (payload bs) (by omega)
  have hq := payR_of bs h1 h2 hr
  have hg : got (frameOf (payload bs)) = bs := by unfold got; rw [hi, hq]
  refine ⟨⟨ho, by rw [hi, hq], by rw [hg]; exact h1, by rw [hg]; exact h2, by rw [hg, hi]⟩, hg⟩
end Go.Proofs.YtamcclcbmenjdaaGreatDoor

/- A list of raw samples that came in. -/
namespace Go.Proofs.YtamcclcbmenjdaaGreatDoor
open Go.RowKit Go.Lib Go.ChangeShapes Go.WideShapes

theorem cellsIntR : Tryz.prog.cellsOf 3 = 1 := by kernel_rfl
theorem cellsU64R : Tryz.prog.cellsOf 32 = 1 := by kernel_rfl
theorem cellsRaw : Tryz.prog.cellsOf 91 = 3 := by kernel_rfl
theorem wf_i64 {n : Int} (h : (Lit.int .i64 n).wf = true) : -9223372036854775808 ≤ n ∧ n ≤ 9223372036854775807 := by
  simp [Lit.wf, IntKind.min, IntKind.max, IntKind.signed, IntKind.bits] at h
  omega
theorem wf_u64 {n : Int} (h : (Lit.int .u64 n).wf = true) : 0 ≤ n ∧ n ≤ 18446744073709551615 := by
  simp [Lit.wf, IntKind.min, IntKind.max, IntKind.signed, IntKind.bits] at h
  omega
/-- A list of raw samples that came in. -/
theorem raws_of {H : Type} {enc : TypeId × Value → H} {W : World} {a0 : Option Addr} {len cap : Nat} {d : DataW H} {ps : List MemPlace} (h : DataW.Trod enc Tryz.prog W 0 (fun _ => true) true 45 (.slice a0 len cap) d ps) :
    ∃ raws, RawsAt W W.heap.size (.slice a0 len cap) raws ∧ ((d = .nil ∧ raws.length = 0) ∨ ∃ elems spare, d = .slice elems spare ∧ raws.length = elems.length) := by
  obtain ⟨fuel, hf⟩ := h
  have hf' : DataW.trod enc Tryz.prog W 0 (fun _ => true) true fuel 45 [.slice a0 len cap] = some (d, ps) := hf
  rcases Go.Deep.open_slice Tryz.underlying45 hf' with ⟨hcs, hx⟩ | ⟨a, len', cap', m, n, D, Pl, hcs, hb, hl, hm, hmm, hx, hel⟩
  · cases hcs
    cases hx
    exact ⟨[], ⟨none, 0, rfl, (fun x hx => by cases hx), .inl rfl⟩, .inl ⟨rfl, rfl⟩⟩
  · cases hcs
    simp only [if_true] at hmm
    subst hmm
    have hd : d = .slice ((List.range len).map D) ((List.range (m - len)).map fun j => D (len + j)) := congrArg Prod.fst hx
    rw [cellsRaw] at hel
    have each : ∀ i, i < len → ∃ x : Int × Int × Nat, W.cell? (a.add (i * 3)) = some (.int .i64 x.1) ∧ W.cell? ((a.add (i * 3)).add 1) = some (.int .i64 x.2.1) ∧ W.cell? ((a.add (i * 3)).add 2) = some (.int .u64 (x.2.2 : Int)) ∧
        -9223372036854775808 ≤ x.1 ∧ x.1 ≤ 9223372036854775807 ∧ -9223372036854775808 ≤ x.2.1 ∧ x.2.1 ≤ 9223372036854775807 ∧ x.2.2 ≤ 18446744073709551615 := by
      intro i hi
      obtain ⟨cs', h1, h2⟩ := hel i (by omega)
      obtain ⟨_, hlen, hcell⟩ := World.cells?_some h1
      obtain ⟨y0, y1, y2, k, _, _, g0, g1, g2⟩ := Go.Deep.trod_struct3 Tryz.underlying91 h2
      simp only [cellsIntR, cellsU64R] at g0 g1 g2
      obtain ⟨m0, e0, _, w0⟩ := DataW.trod_int Tryz.underlying3 g0
      obtain ⟨m1, e1, _, w1⟩ := DataW.trod_int Tryz.underlying3 g1
      obtain ⟨m2, e2, _, w2⟩ := DataW.trod_int Tryz.underlying32 g2
      have b0 := wf_i64 w0
      have b1 := wf_i64 w1
      have b2 := wf_u64 w2
      match cs', hlen, hcell, e0, e1, e2 with
      | [c0, c1, c2], _, hcell, e0, e1, e2 =>
        simp at e0 e1 e2
        subst e0 e1 e2
        have q0 := hcell 0 (by omega)
        have q1 := hcell 1 (by omega)
        have q2 := hcell 2 (by omega)
        have z0 : (a.add (i * 3)).add 0 = a.add (i * 3) := by unfold Addr.add; simp
        rw [z0] at q0
        refine ⟨(m0, m1, m2.toNat), q0, q1, ?_, b0.1, b0.2, b1.1, b1.2, by show m2.toNat ≤ _; omega⟩
        rw [q2]
        show some (Value.int .u64 m2) = some (.int .u64 (m2.toNat : Int))
        rw [Int.toNat_of_nonneg b2.1]
    obtain ⟨F, hF⟩ := Go.Deep.choose_lt each
    refine ⟨(List.range len).map F, ⟨some a, m, by simp, fun x hx => ?_, ?_⟩, .inr ⟨_, _, hd, by simp⟩⟩
    · obtain ⟨i, hi, rfl⟩ := List.mem_map.1 hx
      exact (hF i (List.mem_range.1 hi)).2.2.2
    · by_cases h0 : len = 0
      · subst h0; exact .inl rfl
      · obtain ⟨b, o, spot⟩ := a
        have hs : spot = none := by
          have := (hF 0 (by omega)).1
          simpa [Addr.add] using World.cell?_spot this
        subst hs
        refine .inr ⟨b, o, rfl, World.block_lt_of_cell? W _ (hF 0 (by omega)).1, fun i x hx => ?_⟩
        have hi : i < len := by have := (List.getElem?_eq_some_iff.1 hx).1; simpa using this
        have e : x = F i := by
          rw [List.getElem?_map, List.getElem?_range hi] at hx
          exact (Option.some.inj hx).symm
        subst e
        have hh := hF i hi
        rw [addr_add, addr_add, addr_add] at hh
        exact ⟨hh.1, hh.2.1, hh.2.2.1⟩
theorem small_of {bs : List Ser} (h : LimitsOk bs) : Small bs := by
  have hg : ∀ s ∈ bs, s.1.length ≤ 4 ∧ s.2.length ≤ 40 := fun s hs => by
    obtain ⟨i, hi, e⟩ := List.mem_iff_getElem.1 hs
    exact h.1 i s hi (by rw [List.getElem?_eq_getElem hi, e])
  exact ⟨by have := h.2; omega, fun s hs => by have := (hg s hs).1; omega, fun s hs => by have := (hg s hs).2; omega⟩
theorem Tryz.own : ownKnob Tryz.prog.godebug = none := by kernel_rfl
theorem Tryz.laidOut : laidOutB Tryz.prog = true := by kernel_rfl
theorem Tryz.bytesRaw : Tryz.prog.bytesOf 91 = 24 := by kernel_rfl
theorem Tryz.rawReads : Tryz.prog.readableRec 45 = true := by kernel_rfl
theorem Tryz.rawType : 45 < Tryz.prog.types.size := of_decide_eq_true (by kernel_rfl)
end Go.Proofs.YtamcclcbmenjdaaGreatDoor

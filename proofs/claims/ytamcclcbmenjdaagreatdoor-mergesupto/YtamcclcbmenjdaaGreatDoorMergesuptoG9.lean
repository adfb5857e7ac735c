/- 'choirlaw.Merges', for any list of texts of bulk at most 1048576: Merge answers the document's frame or error; what is handed in stays. The second form's statement and its card: its only condition is the row's own bound on the argument's bulk. -/
import Derived.Test.YtamcclcbmenjdaaGreatDoorMergesuptoG8
/- The byte reader: fail, number. -/
namespace Go.Proofs.YtamcclcbmenjdaaGreatDoor
open Go.RowKit Go.Lib

/-- A byte reader at ⟨yb, yo⟩: what is left, and its state. -/
structure YR (w : World) (yb yo : Nat) (s : ByteArray) (st : Nat) : Prop where
  c0 : w.cell? ⟨yb, yo, none⟩ = some (.string s)
  c1 : w.cell? ⟨yb, yo + 1, none⟩ = some (.int .i64 st)
  f0 : w.frozen? ⟨yb, yo, none⟩ = false
  f1 : w.frozen? ⟨yb, yo + 1, none⟩ = false
/-- What its methods leave: its two cells turn, no more; new blocks may be made. -/
structure Rd (w w' : World) (yb yo : Nat) : Prop where
  os : w'.os = w.os
  tape : w'.tape = w.tape
  output : w'.output = w.output
  size : w.heap.size ≤ w'.heap.size
  block : ∀ k, k < w.heap.size → k ≠ yb → w'.heap[k]? = w.heap[k]?
theorem Rd.refl (w : World) (yb yo : Nat) : Rd w w yb yo := ⟨rfl, rfl, rfl, Nat.le_refl _, fun _ _ _ => rfl⟩
theorem Rd.trans {w w1 w2 : World} {yb yo : Nat} (h : Rd w w1 yb yo) (k : Rd w1 w2 yb yo) : Rd w w2 yb yo :=
  ⟨k.os.trans h.os, k.tape.trans h.tape, k.output.trans h.output, Nat.le_trans h.size k.size, fun i hi hy => (k.block i (Nat.lt_of_lt_of_le hi h.size) hy).trans (h.block i hi hy)⟩
theorem Rd.set {w : World} {yb yo o : Nat} (u : Value) : Rd w (w.setCell ⟨yb, o, none⟩ u) yb yo := ⟨rfl, rfl, rfl, by simp, fun k _ hk => heap_setCell_other _ _ _ _ hk⟩
theorem YR.setLeft {w : World} {yb yo st : Nat} {s : ByteArray} (h : YR w yb yo s st) (t : ByteArray) : YR (w.setCell ⟨yb, yo, none⟩ (.string t)) yb yo t st :=
  ⟨World.cell?_setCell_same _ _ _ h.c0, (World.cell?_setCell_other _ _ _ _ (fun e => absurd (congrArg Addr.off e) (by simp))).trans h.c1, by rw [World.frozen?_setCell]; exact h.f0, by rw [World.frozen?_setCell]; exact h.f1⟩
theorem YR.setState {w : World} {yb yo st : Nat} {s : ByteArray} (h : YR w yb yo s st) (q : Nat) : YR (w.setCell ⟨yb, yo + 1, none⟩ (.int .i64 q)) yb yo s q :=
  ⟨(World.cell?_setCell_other _ _ _ _ (fun e => absurd (congrArg Addr.off e) (by simp))).trans h.c0, World.cell?_setCell_same _ _ _ h.c1, by rw [World.frozen?_setCell]; exact h.f0, by rw [World.frozen?_setCell]; exact h.f1⟩

set_option maxHeartbeats 400000 in
theorem fail_any (yb yo st : Nat) (s : ByteArray) (w : World) (H : YR w yb yo s st) :
    Calls Tryz.prog 132 #[.pointer (some ⟨yb, yo, none⟩)] w fun e w' => e = .returned (.tuple #[]) ∧ YR w' yb yo ⟨#[]⟩ 1 ∧ Rd w w' yb yo := by
  have c0 := H.c0
  have c1 := H.c1
  have f0 := H.f0
  have f1 := H.f1
  have HF := hide ((H.setLeft ⟨#[]⟩).setState 1)
  clear H
  go_enter Tryz.func132, Tryz.ntmps132
  go_wp2
  go_end0
  exact ⟨rfl, HF.out, (Rd.set (yo := yo) _).trans (Rd.set _)⟩

/-- The first k groups of seven bits, the lowest first. -/
def numTo (l : List UInt8) : Nat → Nat
  | 0 => 0
  | k + 1 => numTo l k + ((l.getD k 0).toNat % 128) * 2 ^ (7 * k)
theorem numTo_lt (l : List UInt8) (k : Nat) : numTo l k < 2 ^ (7 * k) := by
  induction k with
  | zero => simp [numTo]
  | succ k ih =>
    have h1 : (l.getD k 0).toNat % 128 < 128 := Nat.mod_lt _ (by decide)
    have h2 : 2 ^ (7 * (k + 1)) = 128 * 2 ^ (7 * k) := by rw [show 7 * (k + 1) = 7 * k + 7 by omega, Nat.pow_add]; omega
    have h3 : ((l.getD k 0).toNat % 128) * 2 ^ (7 * k) ≤ 127 * 2 ^ (7 * k) := Nat.mul_le_mul_right _ (by omega)
    rw [numTo, h2]; omega
/-- A number read, and how many bytes it takes; none: there is none, or it is above most. -/
def rdNum (l : List UInt8) (most : Int) : Nat → Nat → Option (Nat × Nat)
  | 0, _ => none
  | f + 1, k => if 127 < (l.getD k 0).toNat then rdNum l most f (k + 1) else if most < (numTo l (k + 1) : Int) then none else some (numTo l (k + 1), k + 1)

theorem getD_byte (s : ByteArray) (k : Nat) (h : k < s.size) : s.data.toList.getD k 0 = s[k] := by
  rw [List.getD_eq_getElem?_getD, List.getElem?_eq_getElem (by simpa using h)]; rfl
theorem wrap64_nat (n : Nat) (h : n ≤ 9223372036854775807) : wrap64 (n : Int) = (n : Int) := by unfold wrap64; omega
theorem num_or (s : ByteArray) (k : Nat) (h : k < s.size) (hk : k ≤ 8) : Go.bits .or .i64 ((numTo s.data.toList k : Nat) : Int) (wrap64 (wrap64 (Go.bits .and .u8 (s[k].toNat : Int) 127) * 2 ^ (7 * k))) = ((numTo s.data.toList (k + 1) : Nat) : Int) := by
  have h1 : Go.bits .and .u8 (s[k].toNat : Int) 127 = ((s[k].toNat % 128 : Nat) : Int) := by
    have := bits_mask .u8 8 (by decide) wraps_u8 7 (by decide) (s[k].toNat : Int) (Int.natCast_nonneg _) (by have := s[k].toNat_lt; omega)
    simpa using this
  have hp : 2 ^ (7 * k) ≤ 2 ^ 56 := Nat.pow_le_pow_right (by decide) (by omega)
  have hb : s[k].toNat % 128 < 128 := Nat.mod_lt _ (by decide)
  have hprod : (s[k].toNat % 128) * 2 ^ (7 * k) ≤ 127 * 2 ^ 56 := Nat.mul_le_mul (by omega) hp
  have e1 : wrap64 (((s[k].toNat % 128 : Nat) : Int)) = ((s[k].toNat % 128 : Nat) : Int) := wrap64_nat _ (by omega)
  have e2 : (((s[k].toNat % 128 : Nat) : Int) * 2 ^ (7 * k)) = (((s[k].toNat % 128) * 2 ^ (7 * k) : Nat) : Int) := by simp
  have e3 : wrap64 ((((s[k].toNat % 128) * 2 ^ (7 * k) : Nat) : Int)) = (((s[k].toNat % 128) * 2 ^ (7 * k) : Nat) : Int) := wrap64_nat _ (by omega)
  rw [h1, e1, e2, e3, numTo, getD_byte s k h]
  have hn := numTo_lt s.data.toList k
  have hbn := (bits_nat .i64 63 (by decide) Pl.wraps_i64 (numTo s.data.toList k) ((s[k].toNat % 128) * 2 ^ (7 * k)) (by omega) (by omega)).2
  rw [hbn]
  have ho := Nat.two_pow_add_eq_or_of_lt hn (s[k].toNat % 128)
  rw [Nat.or_comm, Nat.mul_comm, ← ho, Nat.add_comm]

/-- What number leaves: the number and the rest, or 0 and nothing. -/
def NumPost (s : ByteArray) (most : Int) (st : Nat) (yb yo : Nat) (w : World) (e : Ending) (w' : World) : Prop :=
  (∃ n k, rdNum s.data.toList most (min s.size 9) 0 = some (n, k) ∧ e = .returned (.int .i64 n) ∧ YR w' yb yo (s.extract k s.size) st ∧ Rd w w' yb yo) ∨
  (rdNum s.data.toList most (min s.size 9) 0 = none ∧ e = .returned (.int .i64 0) ∧ YR w' yb yo ⟨#[]⟩ 1 ∧ Rd w w' yb yo)

set_option maxRecDepth 100000 in
set_option maxHeartbeats 400000 in
theorem number_any (yb yo st : Nat) (s : ByteArray) (most : Int) (w : World) (H : YR w yb yo s st) (hs : s.size ≤ 140737488355328) :
    Calls Tryz.prog 107 #[.pointer (some ⟨yb, yo, none⟩), .int .i64 most] w fun e w' => NumPost s most st yb yo w e w' := by
  have c0 := H.c0
  have c1 := H.c1
  have f0 := H.f0
  have HH := hide H
  have em : (min (s.size : Int) 9) = ((min s.size 9 : Nat) : Int) := by omega
  obtain ⟨M, hM⟩ : ∃ M, M = min s.size 9 := ⟨_, rfl⟩
  have hM1 : M ≤ s.size := by omega
  have hM2 : M ≤ 9 := by omega
  rw [← hM] at em
  have EM := hide hM
  clear H hM
  go_enter Tryz.func107, Tryz.ntmps107
  go_wp2
  go_loop [5, 6, 13] (fun n _ i => ∃ k : Nat, k ≤ M ∧ i = .int .i64 k ∧ n = .int .i64 (numTo s.data.toList k) ∧ Hid (rdNum s.data.toList most M 0 = rdNum s.data.toList most (M - k) k)) (fun _ _ i => M - (intOf i).toNat)
  case atStart => exact ⟨0, Nat.zero_le _, rfl, rfl, rfl⟩
  case round =>
    obtain ⟨k, hk, rfl, rfl, HE⟩ := hrel
    by_cases hlt : k < M
    · have hks : k < s.size := by omega
      have hor := num_or s k hks (by omega)
      have HN : Hid (rdNum s.data.toList most (M - k) k = if 127 < s[k].toNat then rdNum s.data.toList most (M - (k + 1)) (k + 1) else if most < (numTo s.data.toList (k + 1) : Int) then none else some (numTo s.data.toList (k + 1), k + 1)) := by
        show _ = _
        rw [show M - k = (M - (k + 1)) + 1 by omega, rdNum, getD_byte s k hks]
      have hnb : numTo s.data.toList (k + 1) < 9223372036854775808 := Nat.lt_of_lt_of_le (numTo_lt _ _) (Nat.pow_le_pow_right (by decide) (by omega : 7 * (k + 1) ≤ 63))
      generalize hN1 : numTo s.data.toList (k + 1) = N1 at *
      have HN1 := hide hN1
      clear hN1
      by_cases hbig : 127 < s[k].toNat
      · have hend : rdNum s.data.toList most M 0 = rdNum s.data.toList most (M - (k + 1)) (k + 1) := by rw [HE.out, HN.out, if_pos hbig]
        have HEnd := hide hend
        clear hend HE HN
        go_wp2
        go_round
        case rel => exact ⟨k + 1, by omega, by go_num, val_int (by rw [HN1.out]), HEnd.out⟩
        case measure => simp [intOf]; omega
      · by_cases hmost : most < (N1 : Int)
        · have hend : rdNum s.data.toList most M 0 = none := by rw [HE.out, HN.out, if_neg hbig, if_pos hmost]
          have C := hide (fail_any yb yo st s w HH.out)
          have HEnd := hide hend
          clear hend HE HN
          go_wp2_with fail
          refine C.out.mono ?_
          rintro e w2 ⟨rfl, hY, hR⟩
          have HY := hide hY
          have HR := hide hR
          clear hY hR c0 c1 f0
          go_wp2
          go_ret
          exact .inr ⟨by rw [← EM.out]; exact HEnd.out, rfl, HY.out, HR.out⟩
        · have hend : rdNum s.data.toList most M 0 = some (N1, k + 1) := by rw [HE.out, HN.out, if_neg hbig, if_neg hmost]
          have HEnd := hide hend
          have HF := hide (HH.out.setLeft (s.extract (k + 1) s.size))
          clear hend HE HN
          go_wp2
          go_ret
          exact .inl ⟨N1, k + 1, by rw [← EM.out]; exact HEnd.out, rfl, HF.out, Rd.set _⟩
    · have hend : rdNum s.data.toList most M 0 = none := by rw [HE.out, show M - k = 0 by omega, rdNum]
      have C := hide (fail_any yb yo st s w HH.out)
      have HEnd := hide hend
      clear hend
      go_wp2_with fail
      refine C.out.mono ?_
      rintro e w2 ⟨rfl, hY, hR⟩
      have HY := hide hY
      have HR := hide hR
      clear hY hR c0 c1 f0
      go_wp2
      go_ret
      exact .inr ⟨by rw [← EM.out]; exact HEnd.out, rfl, HY.out, HR.out⟩
end Go.Proofs.YtamcclcbmenjdaaGreatDoor

/- The byte reader: text. -/
namespace Go.Proofs.YtamcclcbmenjdaaGreatDoor
open Go.RowKit Go.Lib

/-- What text leaves: the text and the rest, or an empty one and nothing. -/
def TextPost (s : ByteArray) (most : Int) (st : Nat) (yb yo : Nat) (w : World) (e : Ending) (w' : World) : Prop :=
  (∃ n k, rdNum s.data.toList most (min s.size 9) 0 = some (n, k) ∧ n ≤ s.size - k ∧ e = .returned (.string ((s.extract k s.size).extract 0 n)) ∧ YR w' yb yo ((s.extract k s.size).extract n (s.extract k s.size).size) st ∧ Rd w w' yb yo) ∨
  ((∀ n k, rdNum s.data.toList most (min s.size 9) 0 = some (n, k) → ¬ n ≤ s.size - k) ∧ e = .returned (.string ⟨#[]⟩) ∧ YR w' yb yo ⟨#[]⟩ 1 ∧ Rd w w' yb yo)

set_option maxRecDepth 100000 in
set_option maxHeartbeats 400000 in
theorem text_any (yb yo st : Nat) (s : ByteArray) (most : Int) (w : World) (H : YR w yb yo s st) (hs : s.size ≤ 140737488355328) :
    Calls Tryz.prog 131 #[.pointer (some ⟨yb, yo, none⟩), .int .i64 most] w fun e w' => TextPost s most st yb yo w e w' := by
  have C := hide (number_any yb yo st s most w H hs)
  clear H
  go_enter Tryz.func131, Tryz.ntmps131
  go_wp2_with fail
  refine C.out.mono ?_
  rintro e w1 (⟨n, k, hr, rfl, hY, hR⟩ | ⟨hr, rfl, hY, hR⟩)
  · have hsz : (s.extract k s.size).size = s.size - k := by simp
    generalize ht : s.extract k s.size = t at *
    have HT := hide ht
    clear ht
    have c0 := hY.c0
    have f0 := hY.f0
    have HR := hide hR
    have HE := hide hr
    have HSz := hide hsz
    by_cases hn : n ≤ t.size
    · have HY := hide (hY.setLeft (t.extract n t.size))
      clear hY hR hr hsz C
      go_wp2
      go_ret
      have h := HT.out
      subst h
      exact .inl ⟨n, k, HE.out, by rw [← HSz.out]; exact hn, rfl, HY.out, HR.out.trans (Rd.set _)⟩
    · have CF := hide (fail_any yb yo st t w1 hY)
      clear hY hR hr hsz C
      have hnd : (t.size : Int) < n := by omega
      go_wp2_with fail
      refine CF.out.mono ?_
      rintro e w2 ⟨rfl, hY2, hR2⟩
      have HY2 := hide hY2
      have HR2 := hide (HR.out.trans hR2)
      clear hY2 hR2 CF HR
      go_wp2
      go_ret
      exact .inr ⟨(fun n' k' h => by rw [HE.out] at h; cases h; rw [← HSz.out]; exact hn), rfl, HY2.out, HR2.out⟩
  · have c0 := hY.c0
    have f0 := hY.f0
    have HR := hide hR
    have HE := hide hr
    have HY := hide (hY.setLeft ⟨#[]⟩)
    clear hY hR hr C
    go_wp2
    go_ret
    exact .inr ⟨(fun n' k' h => by rw [HE.out] at h; cases h), rfl, HY.out, HR.out.trans (Rd.set _)⟩
end Go.Proofs.YtamcclcbmenjdaaGreatDoor

/- The byte reader's answers as functions of what is left. -/
namespace Go.Proofs.YtamcclcbmenjdaaGreatDoor
open Go.RowKit Go.Lib

/-- A number: it, what is left, the state. -/
def numR (s : ByteArray) (most : Int) (st : Nat) : Nat × ByteArray × Nat :=
  match rdNum s.data.toList most (min s.size 9) 0 with
  | some (n, k) => (n, s.extract k s.size, st)
  | none => (0, ⟨#[]⟩, 1)
/-- A text: it, what is left, the state. -/
def textR (s : ByteArray) (most : Int) (st : Nat) : ByteArray × ByteArray × Nat :=
  match rdNum s.data.toList most (min s.size 9) 0 with
  | some (n, k) => if n ≤ s.size - k then ((s.extract k s.size).extract 0 n, (s.extract k s.size).extract n (s.extract k s.size).size, st) else (⟨#[]⟩, ⟨#[]⟩, 1)
  | none => (⟨#[]⟩, ⟨#[]⟩, 1)

theorem rdNum_le (l : List UInt8) (most : Int) (f k n j : Nat) (h : rdNum l most f k = some (n, j)) : (n : Int) ≤ most := by
  induction f generalizing k with
  | zero => cases h
  | succ f ih =>
    rw [rdNum] at h
    split at h
    · exact ih _ h
    · split at h
      · cases h
      · cases h; omega
theorem numR_le (s : ByteArray) (most : Int) (st : Nat) (h0 : 0 ≤ most) : ((numR s most st).1 : Int) ≤ most := by
  unfold numR
  split
  · rename_i h; exact rdNum_le _ _ _ _ _ _ h
  · exact h0
theorem numR_ok (s : ByteArray) (most : Int) (st : Nat) (h : (numR s most st).2.2 ≠ 1) : ((numR s most st).1 : Int) ≤ most := by
  unfold numR at *
  split
  · rename_i h; exact rdNum_le _ _ _ _ _ _ h
  · rename_i h1; rw [h1] at h; exact absurd rfl h
theorem numR_size (s : ByteArray) (most : Int) (st : Nat) : (numR s most st).2.1.size ≤ s.size := by
  unfold numR; split
  · simp
  · exact Nat.zero_le _
theorem numR_st (s : ByteArray) (most : Int) (st : Nat) (h : st ≤ 1) : (numR s most st).2.2 ≤ 1 := by
  unfold numR; split <;> simp [h]
theorem textR_size (s : ByteArray) (most : Int) (st : Nat) : (textR s most st).2.1.size ≤ s.size := by
  unfold textR; split
  · split
    · simp; omega
    · exact Nat.zero_le _
  · exact Nat.zero_le _
theorem textR_len (s : ByteArray) (most : Int) (st : Nat) : (textR s most st).1.size ≤ s.size := by
  unfold textR; split
  · split
    · simp; omega
    · exact Nat.zero_le _
  · exact Nat.zero_le _
theorem textR_st (s : ByteArray) (most : Int) (st : Nat) (h : st ≤ 1) : (textR s most st).2.2 ≤ 1 := by
  unfold textR; split
  · split <;> simp [h]
  · simp

theorem number_is (yb yo st : Nat) (s : ByteArray) (most : Int) (w : World) (H : YR w yb yo s st) (hs : s.size ≤ 140737488355328) :
    Calls Tryz.prog 107 #[.pointer (some ⟨yb, yo, none⟩), .int .i64 most] w fun e w' => e = .returned (.int .i64 ((numR s most st).1 : Nat)) ∧ YR w' yb yo (numR s most st).2.1 (numR s most st).2.2 ∧ Rd w w' yb yo := by
  refine (number_any yb yo st s most w H hs).mono ?_
  rintro e w' (⟨n, k, hr, rfl, hY, hR⟩ | ⟨hr, rfl, hY, hR⟩) <;> simp only [numR, hr]
  · exact ⟨trivial, hY, hR⟩
  · exact ⟨by simp, hY, hR⟩
theorem text_is (yb yo st : Nat) (s : ByteArray) (most : Int) (w : World) (H : YR w yb yo s st) (hs : s.size ≤ 140737488355328) :
    Calls Tryz.prog 131 #[.pointer (some ⟨yb, yo, none⟩), .int .i64 most] w fun e w' => e = .returned (.string (textR s most st).1) ∧ YR w' yb yo (textR s most st).2.1 (textR s most st).2.2 ∧ Rd w w' yb yo := by
  refine (text_any yb yo st s most w H hs).mono ?_
  rintro e w' (⟨n, k, hr, hn, rfl, hY, hR⟩ | ⟨hr, rfl, hY, hR⟩)
  · simp only [textR, hr, if_pos hn]
    exact ⟨trivial, hY, hR⟩
  · have e : textR s most st = (⟨#[]⟩, ⟨#[]⟩, 1) := by
      unfold textR
      split
      · rename_i n k h; rw [if_neg (hr n k h)]
      · rfl
    rw [e]
    exact ⟨rfl, hY, hR⟩
end Go.Proofs.YtamcclcbmenjdaaGreatDoor

/- The unpacker: what it keeps, and its steps as functions. -/
namespace Go.Proofs.YtamcclcbmenjdaaGreatDoor
open Go.RowKit Go.Lib

/-- Where an unpacker is: the bit, the state, the last time, step and bits, the window. -/
structure US where
  pos : Nat
  st : Nat
  t : Nat
  d : Nat
  b : Nat
  a : Nat
  z : Nat

/-- Numbers within their bounds. -/
structure UOk (s : ByteArray) (u : US) : Prop where
  ht : u.t ≤ 18446744073709551615
  hd : u.d ≤ 18446744073709551615
  hb : u.b ≤ 18446744073709551615
  haz : u.a + u.z ≤ 64
  hpos : u.pos ≤ 8 * s.size

/-- An unpacker in block ub. -/
structure UP (w : World) (ub : Nat) (s : ByteArray) (u : US) : Prop where
  br : BR w ub 0 s u.pos u.st
  c3 : w.cell? ⟨ub, 3, none⟩ = some (.int .u64 u.t)
  c4 : w.cell? ⟨ub, 4, none⟩ = some (.int .u64 u.d)
  c5 : w.cell? ⟨ub, 5, none⟩ = some (.int .u64 u.b)
  c6 : w.cell? ⟨ub, 6, none⟩ = some (.int .i64 u.a)
  c7 : w.cell? ⟨ub, 7, none⟩ = some (.int .i64 u.z)
  fr : ∀ o, w.frozen? ⟨ub, o, none⟩ = false
  tabs : Tabs w
  hp : 3 ≤ ub

theorem Rd.of_read {w w' : World} {rb ro : Nat} (h : Read w w' rb ro) : Rd w w' rb ro := ⟨h.os, h.tape, h.output, Nat.le_of_eq h.size, fun k _ hk => h.block k hk⟩
theorem UP.read {w w' : World} {ub : Nat} {s : ByteArray} {u : US} (h : UP w ub s u) {p q : Nat} (hb : BR w' ub 0 s p q) (hr : Read w w' ub 0) : UP w' ub s { u with pos := p, st := q } := by
  have hp := h.hp
  exact ⟨hb, (hr.cells 3 (by omega) (by omega)).trans h.c3, (hr.cells 4 (by omega) (by omega)).trans h.c4, (hr.cells 5 (by omega) (by omega)).trans h.c5, (hr.cells 6 (by omega) (by omega)).trans h.c6, (hr.cells 7 (by omega) (by omega)).trans h.c7,
    fun o => (hr.frozen o).trans (h.fr o), h.tabs.kept (hr.block _ (by omega)) (hr.block _ (by omega)), hp⟩
theorem UP.lt {w : World} {ub : Nat} {s : ByteArray} {u : US} (h : UP w ub s u) : ub < w.heap.size := World.block_lt_of_cell? w _ h.c3
/-- Where new blocks are made, and draws. -/
theorem UP.kept {w w' : World} {ub : Nat} {s : ByteArray} {u : US} (h : UP w ub s u) (hk : ∀ k, k < w.heap.size → w'.heap[k]? = w.heap[k]?) : UP w' ub s u := by
  have hb := hk ub h.lt
  have e : ∀ o, w'.cell? ⟨ub, o, none⟩ = w.cell? ⟨ub, o, none⟩ := fun o => World.cell?_of_block (a := ⟨ub, o, none⟩) hb
  have f : ∀ o, w'.frozen? ⟨ub, o, none⟩ = w.frozen? ⟨ub, o, none⟩ := fun o => World.frozen?_of_block (a := ⟨ub, o, none⟩) hb
  have hp := h.hp
  have hl := h.lt
  exact ⟨⟨(e 0).trans h.br.c0, (e 1).trans h.br.c1, (e 2).trans h.br.c2, (f 1).trans h.br.f1, (f 2).trans h.br.f2⟩, (e 3).trans h.c3, (e 4).trans h.c4, (e 5).trans h.c5, (e 6).trans h.c6, (e 7).trans h.c7,
    fun o => (f o).trans (h.fr o), h.tabs.kept (hk _ (by omega)) (hk _ (by omega)), hp⟩
theorem UP.alloc {w : World} {ub : Nat} {s : ByteArray} {u : US} (h : UP w ub s u) (ob : Obj) : UP (w.alloc ob) ub s u := h.kept fun _ hk => heap_alloc_old w ob hk
theorem UP.drewN {w : World} {ub : Nat} {s : ByteArray} {u : US} (h : UP w ub s u) (q : Nat) : UP (w.drewN q) ub s u := h.kept fun _ _ => rfl
theorem UP.drew {w : World} {ub : Nat} {s : ByteArray} {u : US} (h : UP w ub s u) : UP w.drew ub s u := h.kept fun _ _ => rfl

/-- A store into one cell of the unpacker. -/
theorem UP.cells_set {w : World} {ub : Nat} {s : ByteArray} {u : US} (h : UP w ub s u) (o : Nat) (x : Value) :
    (∀ i, i ≠ o → (w.setCell ⟨ub, o, none⟩ x).cell? ⟨ub, i, none⟩ = w.cell? ⟨ub, i, none⟩) ∧ (∀ i, (w.setCell ⟨ub, o, none⟩ x).frozen? ⟨ub, i, none⟩ = false) ∧ Tabs (w.setCell ⟨ub, o, none⟩ x) := by
  have hp := h.hp
  exact ⟨fun i hi => World.cell?_setCell_other _ _ _ _ (fun e => hi (congrArg Addr.off e).symm), fun i => by rw [World.frozen?_setCell]; exact h.fr i,
    h.tabs.below ((Below.refl ub w).setCell (p := ⟨ub, o, none⟩) (Nat.le_refl ub) x) hp⟩
theorem UP.setD {w : World} {ub : Nat} {s : ByteArray} {u : US} (h : UP w ub s u) (x : Nat) : UP (w.setCell ⟨ub, 4, none⟩ (.int .u64 x)) ub s { u with d := x } := by
  obtain ⟨e, f, t⟩ := h.cells_set 4 (.int .u64 x)
  exact ⟨⟨(e 0 (by omega)).trans h.br.c0, (e 1 (by omega)).trans h.br.c1, (e 2 (by omega)).trans h.br.c2, f 1, f 2⟩, (e 3 (by omega)).trans h.c3, World.cell?_setCell_same _ _ _ h.c4, (e 5 (by omega)).trans h.c5, (e 6 (by omega)).trans h.c6, (e 7 (by omega)).trans h.c7, f, t, h.hp⟩
theorem UP.setT {w : World} {ub : Nat} {s : ByteArray} {u : US} (h : UP w ub s u) (x : Nat) : UP (w.setCell ⟨ub, 3, none⟩ (.int .u64 x)) ub s { u with t := x } := by
  obtain ⟨e, f, t⟩ := h.cells_set 3 (.int .u64 x)
  exact ⟨⟨(e 0 (by omega)).trans h.br.c0, (e 1 (by omega)).trans h.br.c1, (e 2 (by omega)).trans h.br.c2, f 1, f 2⟩, World.cell?_setCell_same _ _ _ h.c3, (e 4 (by omega)).trans h.c4, (e 5 (by omega)).trans h.c5, (e 6 (by omega)).trans h.c6, (e 7 (by omega)).trans h.c7, f, t, h.hp⟩
theorem UP.setB {w : World} {ub : Nat} {s : ByteArray} {u : US} (h : UP w ub s u) (x : Nat) : UP (w.setCell ⟨ub, 5, none⟩ (.int .u64 x)) ub s { u with b := x } := by
  obtain ⟨e, f, t⟩ := h.cells_set 5 (.int .u64 x)
  exact ⟨⟨(e 0 (by omega)).trans h.br.c0, (e 1 (by omega)).trans h.br.c1, (e 2 (by omega)).trans h.br.c2, f 1, f 2⟩, (e 3 (by omega)).trans h.c3, (e 4 (by omega)).trans h.c4, World.cell?_setCell_same _ _ _ h.c5, (e 6 (by omega)).trans h.c6, (e 7 (by omega)).trans h.c7, f, t, h.hp⟩
theorem UP.setA {w : World} {ub : Nat} {s : ByteArray} {u : US} (h : UP w ub s u) (x : Nat) : UP (w.setCell ⟨ub, 6, none⟩ (.int .i64 x)) ub s { u with a := x } := by
  obtain ⟨e, f, t⟩ := h.cells_set 6 (.int .i64 x)
  exact ⟨⟨(e 0 (by omega)).trans h.br.c0, (e 1 (by omega)).trans h.br.c1, (e 2 (by omega)).trans h.br.c2, f 1, f 2⟩, (e 3 (by omega)).trans h.c3, (e 4 (by omega)).trans h.c4, (e 5 (by omega)).trans h.c5, World.cell?_setCell_same _ _ _ h.c6, (e 7 (by omega)).trans h.c7, f, t, h.hp⟩
theorem UP.setZ {w : World} {ub : Nat} {s : ByteArray} {u : US} (h : UP w ub s u) (x : Nat) : UP (w.setCell ⟨ub, 7, none⟩ (.int .i64 x)) ub s { u with z := x } := by
  obtain ⟨e, f, t⟩ := h.cells_set 7 (.int .i64 x)
  exact ⟨⟨(e 0 (by omega)).trans h.br.c0, (e 1 (by omega)).trans h.br.c1, (e 2 (by omega)).trans h.br.c2, f 1, f 2⟩, (e 3 (by omega)).trans h.c3, (e 4 (by omega)).trans h.c4, (e 5 (by omega)).trans h.c5, (e 6 (by omega)).trans h.c6, World.cell?_setCell_same _ _ _ h.c7, f, t, h.hp⟩
theorem UP.setSt {w : World} {ub : Nat} {s : ByteArray} {u : US} (h : UP w ub s u) (x : Nat) : UP (w.setCell ⟨ub, 2, none⟩ (.int .i64 x)) ub s { u with st := x } := by
  obtain ⟨e, f, t⟩ := h.cells_set 2 (.int .i64 x)
  exact ⟨⟨(e 0 (by omega)).trans h.br.c0, (e 1 (by omega)).trans h.br.c1, World.cell?_setCell_same _ _ _ h.br.c2, f 1, f 2⟩, (e 3 (by omega)).trans h.c3, (e 4 (by omega)).trans h.c4, (e 5 (by omega)).trans h.c5, (e 6 (by omega)).trans h.c6, (e 7 (by omega)).trans h.c7, f, t, h.hp⟩

/-- A time. -/
def timeU (s : ByteArray) (u : US) : US :=
  let m := mk s 4 u.pos u.st
  let x := tk s m.2.1 m.2.2 (stepWidth m.1)
  { u with pos := x.2.1, st := x.2.2, d := add64 u.d (sub64 x.1 (stepShift m.1)), t := add64 u.t (add64 u.d (sub64 x.1 (stepShift m.1))) }
/-- A new window. -/
def winU (s : ByteArray) (u : US) : US :=
  let x := tk s u.pos u.st 5
  let y := tk s x.2.1 x.2.2 6
  if x.1 + (y.1 + 1) ≤ 64 then { u with pos := y.2.1, st := y.2.2, a := x.1, z := y.1 + 1 } else { u with pos := y.2.1, st := 1, a := 0, z := 0 }
/-- Bits by the window that is there. -/
def inU (s : ByteArray) (u : US) : US :=
  let x := tk s u.pos u.st u.z
  { u with pos := x.2.1, st := x.2.2, b := u.b ^^^ (x.1 * 2 ^ (64 - u.a - u.z)) }
def bitU (s : ByteArray) (u : US) : US :=
  let m := mk s 2 u.pos u.st
  let u1 : US := { u with pos := m.2.1, st := m.2.2 }
  if m.1 = 0 then u1 else if m.1 = 2 then inU s (winU s u1) else inU s u1

theorem stepShift_lt' (k : Nat) : stepShift k ≤ 18446744073709551615 := by unfold stepShift; split <;> omega
/-- 64 bits as a time. -/
def toI (t : Nat) : Int := if t < 9223372036854775808 then (t : Int) else (t : Int) - 18446744073709551616
def samU (u : US) : Int × Nat := (toI u.t, u.b)
/-- The first sample, and the n ones behind it. -/
def firstU (s : ByteArray) : US :=
  let x := tk s 0 0 64
  let y := tk s x.2.1 x.2.2 64
  ⟨y.2.1, y.2.2, x.1, 0, y.1, 0, 0⟩
def stepU (s : ByteArray) (u : US) : US := bitU s (timeU s u)
def seqU (s : ByteArray) (u : US) : Nat → List (Int × Nat) × US
  | 0 => ([samU u], u)
  | n + 1 => ((seqU s u n).1 ++ [samU (stepU s (seqU s u n).2)], stepU s (seqU s u n).2)
theorem seqU_length (s : ByteArray) (u : US) (n : Nat) : (seqU s u n).1.length = n + 1 := by
  induction n with
  | zero => rfl
  | succ n ih => simp [seqU, ih]
end Go.Proofs.YtamcclcbmenjdaaGreatDoor

/- 'choirkeep.Level', for any list of steps (100 of them are done): when all are up, nothing is under way, and each has told each other one, all have the same, and compacted logs are the same bytes. The first form's statement and its card: no condition beside the row's own. -/
import Derived.Test.YtamcclcbmenjdaaGreatDoorLevelG13
/- The bit reader: take. -/
namespace Go.Proofs.YtamcclcbmenjdaaGreatDoor
open Go.RowKit Go.Lib

/-- A bit reader at ⟨rb, ro⟩: at the bit 'at' of s, in state st. -/
structure BR (w : World) (rb ro : Nat) (s : ByteArray) (pos st : Nat) : Prop where
  c0 : w.cell? ⟨rb, ro, none⟩ = some (.string s)
  c1 : w.cell? ⟨rb, ro + 1, none⟩ = some (.int .i64 pos)
  c2 : w.cell? ⟨rb, ro + 2, none⟩ = some (.int .i64 st)
  f1 : w.frozen? ⟨rb, ro + 1, none⟩ = false
  f2 : w.frozen? ⟨rb, ro + 2, none⟩ = false
/-- What its methods leave: the two numbers behind its text turn, no more. -/
structure Read (w w' : World) (rb ro : Nat) : Prop where
  os : w'.os = w.os
  tape : w'.tape = w.tape
  output : w'.output = w.output
  size : w.heap.size = w'.heap.size
  block : ∀ k, k ≠ rb → w'.heap[k]? = w.heap[k]?
  cells : ∀ o, o ≠ ro + 1 → o ≠ ro + 2 → w'.cell? ⟨rb, o, none⟩ = w.cell? ⟨rb, o, none⟩
  frozen : ∀ o, w'.frozen? ⟨rb, o, none⟩ = w.frozen? ⟨rb, o, none⟩
theorem Read.refl (w : World) (rb ro : Nat) : Read w w rb ro := ⟨rfl, rfl, rfl, rfl, fun _ _ => rfl, fun _ _ _ => rfl, fun _ => rfl⟩
theorem Read.trans {w w1 w2 : World} {rb ro : Nat} (h : Read w w1 rb ro) (k : Read w1 w2 rb ro) : Read w w2 rb ro :=
  ⟨k.os.trans h.os, k.tape.trans h.tape, k.output.trans h.output, h.size.trans k.size, fun i hi => (k.block i hi).trans (h.block i hi), fun o h1 h2 => (k.cells o h1 h2).trans (h.cells o h1 h2), fun o => (k.frozen o).trans (h.frozen o)⟩
theorem Read.drewN {w w1 : World} {rb ro : Nat} (h : Read w w1 rb ro) (q : Nat) : Read w (w1.drewN q) rb ro := ⟨h.os, h.tape, h.output, h.size, h.block, h.cells, h.frozen⟩
theorem Read.set {w : World} {rb ro o : Nat} (u : Value) (ho : o = ro + 1 ∨ o = ro + 2) : Read w (w.setCell ⟨rb, o, none⟩ u) rb ro :=
  ⟨rfl, rfl, rfl, by simp, fun k hk => heap_setCell_other _ _ _ _ hk, fun j h1 h2 => World.cell?_setCell_other _ _ _ _ (fun e => by have : o = j := congrArg Addr.off e; omega), fun j => by rw [World.frozen?_setCell]⟩
theorem BR.drewN {w : World} {rb ro pos st : Nat} {s : ByteArray} (h : BR w rb ro s pos st) (q : Nat) : BR (w.drewN q) rb ro s pos st := ⟨h.c0, h.c1, h.c2, h.f1, h.f2⟩
theorem BR.setPos {w : World} {rb ro pos st : Nat} {s : ByteArray} (h : BR w rb ro s pos st) (p : Nat) : BR (w.setCell ⟨rb, ro + 1, none⟩ (.int .i64 p)) rb ro s p st := by
  refine ⟨?_, World.cell?_setCell_same _ _ _ h.c1, ?_, by rw [World.frozen?_setCell]; exact h.f1, by rw [World.frozen?_setCell]; exact h.f2⟩
  · rw [World.cell?_setCell_other _ _ _ _ (fun e => absurd (congrArg Addr.off e) (by simp))]; exact h.c0
  · rw [World.cell?_setCell_other _ _ _ _ (fun e => absurd (congrArg Addr.off e) (by simp))]; exact h.c2
theorem BR.setState {w : World} {rb ro pos st : Nat} {s : ByteArray} (h : BR w rb ro s pos st) (p : Nat) : BR (w.setCell ⟨rb, ro + 2, none⟩ (.int .i64 p)) rb ro s pos p := by
  refine ⟨?_, ?_, World.cell?_setCell_same _ _ _ h.c2, by rw [World.frozen?_setCell]; exact h.f1, by rw [World.frozen?_setCell]; exact h.f2⟩
  · rw [World.cell?_setCell_other _ _ _ _ (fun e => absurd (congrArg Addr.off e) (by simp))]; exact h.c0
  · rw [World.cell?_setCell_other _ _ _ _ (fun e => absurd (congrArg Addr.off e) (by simp))]; exact h.c1

/-- The bit number i, and the number that k bits from i on make. -/
def bitAt (l : List UInt8) (i : Nat) : Nat := (l.getD (i / 8) 0).toNat / 2 ^ (7 - i % 8) % 2
def valTo (l : List UInt8) (i : Nat) : Nat → Nat
  | 0 => 0
  | k + 1 => 2 * valTo l i k + bitAt l (i + k)
theorem valTo_lt (l : List UInt8) (i k : Nat) : valTo l i k < 2 ^ k := by
  induction k with
  | zero => simp [valTo]
  | succ k ih => rw [valTo, Nat.pow_succ]; have : bitAt l (i + k) < 2 := Nat.mod_lt _ (by decide); omega

theorem and_bit (s : ByteArray) (m : Nat) (h : m / 8 < s.size) : Go.bits .and .u8 ((s[m / 8].toNat : Int) / 2 ^ (7 - m % 8)) 1 = ((bitAt s.data.toList m : Nat) : Int) := by
  have e : s.data.toList.getD (m / 8) 0 = s[m / 8] := by
    rw [List.getD_eq_getElem?_getD, List.getElem?_eq_getElem (by simpa using h)]; rfl
  have hx : ((s[m / 8].toNat : Int) / 2 ^ (7 - m % 8)) = ((s[m / 8].toNat / 2 ^ (7 - m % 8) : Nat) : Int) := by simp
  have hlt : s[m / 8].toNat / 2 ^ (7 - m % 8) < 2 ^ 8 := Nat.lt_of_le_of_lt (Nat.div_le_self _ _) s[m / 8].toNat_lt
  have hb := bits_mask .u8 8 (by decide) wraps_u8 1 (by decide) ((s[m / 8].toNat / 2 ^ (7 - m % 8) : Nat) : Int) (Int.natCast_nonneg _) (by exact_mod_cast hlt)
  rw [hx, bitAt, e]
  simpa using hb
theorem or_bit64 (V b : Nat) (hV : V < 9223372036854775808) (hb : b ≤ 1) : Go.bits .or .u64 ((V : Int) * 2) (b : Int) = ((2 * V + b : Nat) : Int) := by
  have h := bits_join .u64 64 (by decide) (fun n h0 h1 => by rw [IntKind.wrap_u64]; omega) 1 ((V : Int) * 2) b (by omega) (by omega) (by omega) (by omega) (by omega) (by omega)
  rw [h]; omega

set_option maxRecDepth 100000 in
set_option maxHeartbeats 400000 in
/-- Too few bits are left: 0, and it is broken. -/
theorem take_short (rb ro pos st width : Nat) (s : ByteArray) (w : World) (H : BR w rb ro s pos st) (hs : s.size ≤ 140737488355328) (hp : pos ≤ 8 * s.size) (hw : width ≤ 64) (hsh : 8 * s.size < pos + width) :
    Calls Tryz.prog 149 #[.pointer (some ⟨rb, ro, none⟩), .int .i64 width] w fun e w' => e = .returned (.int .u64 0) ∧ BR w' rb ro s pos 1 ∧ Read w w' rb ro := by
  have c0 := H.c0
  have c1 := H.c1
  have c2 := H.c2
  have f2 := H.f2
  have HF := hide fun q => (H.drewN q).setState 1
  have ht : (8 : Int) * s.size - pos < width := by omega
  have hb1 : IntKind.i64.wrap ((8 : Int) * s.size) = 8 * s.size := by rw [IntKind.wrap_i64]; omega
  have hb2 : IntKind.i64.wrap ((8 : Int) * s.size - pos) = 8 * s.size - pos := by rw [IntKind.wrap_i64]; omega
  clear H
  go_enter Tryz.func149, Tryz.ntmps149
  go_wp2
  go_quiet (fail)
  go_wp2
  go_ret
  exact ⟨rfl, HF.out _, ((Read.refl w rb ro).drewN _).trans (Read.set _ (.inr rfl))⟩

set_option maxRecDepth 100000 in
set_option maxHeartbeats 400000 in
theorem take_long (rb ro pos st width : Nat) (s : ByteArray) (w : World) (H : BR w rb ro s pos st) (hs : s.size ≤ 140737488355328) (hw : width ≤ 64) (hsh : pos + width ≤ 8 * s.size) :
    Calls Tryz.prog 149 #[.pointer (some ⟨rb, ro, none⟩), .int .i64 width] w fun e w' => e = .returned (.int .u64 (valTo s.data.toList pos width)) ∧ BR w' rb ro s (pos + width) st ∧ Read w w' rb ro := by
  have c0 := H.c0
  have c1 := H.c1
  have ht : ¬ ((8 : Int) * s.size - pos < width) := by omega
  have htd : decide ((8 : Int) * s.size - pos < width) = false := decide_eq_false ht
  have hb1 : IntKind.i64.wrap ((8 : Int) * s.size) = 8 * s.size := by rw [IntKind.wrap_i64]; omega
  have hb2 : IntKind.i64.wrap ((8 : Int) * s.size - pos) = 8 * s.size - pos := by rw [IntKind.wrap_i64]; omega
  have HH := hide H
  clear H
  go_enter Tryz.func149, Tryz.ntmps149
  go_wp2
  go_quiet (fail)
  clear hb1 hb2 htd ht c0 c1
  go_wp2
  go_loopw [5, 6, 24] (fun n _ i wr => ∃ k : Nat, k ≤ width ∧ i = .int .i64 k ∧ n = .int .u64 (valTo s.data.toList pos k) ∧ BR wr rb ro s (pos + k) st ∧ Read w wr rb ro) (fun _ _ i _ => width - (intOf i).toNat)
  case atStart => exact ⟨0, Nat.zero_le _, rfl, rfl, by simpa using HH.out.drewN _, (Read.refl w rb ro).drewN _⟩
  case round =>
    obtain ⟨k, hk, rfl, rfl, hB, hR⟩ := hrel
    obtain ⟨m, hm⟩ : ∃ m, m = pos + k := ⟨_, rfl⟩
    rw [← hm] at hB
    have HM := hide hm
    have hmb : m ≤ 8 * s.size := by omega
    have HB := hide hB
    have HR := hide hR
    have c0 := hB.c0
    have c1 := hB.c1
    have f1 := hB.f1
    clear hB hR HH
    by_cases hlt : k < width
    · have hq8 : m / 8 < s.size := by omega
      have hq9 : (m : Int) / 8 < (s.size : Int) := by omega
      have hm1 : m ≤ 1125899906842624 := by omega
      have hw8 : IntKind.i64.wrap ((m : Int) / 8) = (m : Int) / 8 := by rw [IntKind.wrap_i64]; omega
      have h08 : 0 ≤ (m : Int) / 8 := by omega
      have htn : ((m : Int) / 8).toNat = m / 8 := by omega
      have hbit := and_bit s m hq8
      have hβ : bitAt s.data.toList m ≤ 1 := by have : bitAt s.data.toList m < 2 := Nat.mod_lt _ (by decide); omega
      have hV : valTo s.data.toList pos k < 9223372036854775808 := Nat.lt_of_lt_of_le (valTo_lt _ _ k) (Nat.pow_le_pow_right (by decide) (by omega : k ≤ 63))
      have hnext : valTo s.data.toList pos (k + 1) = 2 * valTo s.data.toList pos k + bitAt s.data.toList m := by rw [valTo, hm]
      have HNx := hide hnext
      clear hm hnext
      generalize bitAt s.data.toList m = β at *
      generalize valTo s.data.toList pos k = V at *
      have hor := or_bit64 V β hV hβ
      go_wp2
      go_region
      have HB2 : Hid (BR (wr.setCell ⟨rb, ro + 1, none⟩ (.int .i64 ((m : Int) + 1))).drew rb ro s (pos + (k + 1)) st) := by
        have h := (HB.out.setPos (m + 1)).drewN 1
        have e : m + 1 = pos + (k + 1) := by rw [HM.out]; omega
        rw [← e]
        have e2 : ((m + 1 : Nat) : Int) = (m : Int) + 1 := by omega
        rw [e2] at h
        exact h
      have HR2 : Hid (Read w (wr.setCell ⟨rb, ro + 1, none⟩ (.int .i64 ((m : Int) + 1))).drew rb ro) := (HR.out.trans (Read.set _ (.inl rfl))).drewN 1
      clear HB HR HM
      go_wp2
      go_roundw
      case rel => exact ⟨k + 1, by omega, by go_num, val_int (by rw [HNx.out]; simp), HB2.out, HR2.out⟩
      case measure => simp [intOf]; omega
    · have hke : k = width := by omega
      rw [hke] at hm
      have HX := hide (show BR wr rb ro s (pos + width) st by rw [← hm]; exact HB.out)
      have HV : Hid (valTo s.data.toList pos k = valTo s.data.toList pos width) := by show _ = _; rw [hke]
      clear hm hke HM HB
      go_wp2
      go_ret
      exact ⟨ret_int (by rw [HV.out]), HX.out, HR.out⟩
end Go.Proofs.YtamcclcbmenjdaaGreatDoor

/- The bit reader: take in one word, takeMark. -/
namespace Go.Proofs.YtamcclcbmenjdaaGreatDoor
open Go.RowKit Go.Lib

/-- What take answers, and where the reader stands behind it. -/
def tk (s : ByteArray) (pos st width : Nat) : Nat × Nat × Nat := if 8 * s.size < pos + width then (0, pos, 1) else (valTo s.data.toList pos width, pos + width, st)
theorem take_any (rb ro pos st width : Nat) (s : ByteArray) (w : World) (H : BR w rb ro s pos st) (hs : s.size ≤ 140737488355328) (hp : pos ≤ 8 * s.size) (hw : width ≤ 64) :
    Calls Tryz.prog 149 #[.pointer (some ⟨rb, ro, none⟩), .int .i64 width] w fun e w' => e = .returned (.int .u64 (tk s pos st width).1) ∧ BR w' rb ro s (tk s pos st width).2.1 (tk s pos st width).2.2 ∧ Read w w' rb ro := by
  by_cases h : 8 * s.size < pos + width
  · have e : tk s pos st width = (0, pos, 1) := if_pos h
    rw [e]
    exact take_short rb ro pos st width s w H hs hp hw h
  · have e : tk s pos st width = (valTo s.data.toList pos width, pos + width, st) := if_neg h
    rw [e]
    exact take_long rb ro pos st width s w H hs hw (by omega)
theorem tk_pos (s : ByteArray) (pos st width : Nat) (hp : pos ≤ 8 * s.size) : (tk s pos st width).2.1 ≤ 8 * s.size := by
  unfold tk; split
  · exact hp
  · show pos + width ≤ _; omega
theorem tk_lt (s : ByteArray) (pos st width : Nat) : (tk s pos st width).1 < 2 ^ width := by
  unfold tk; split
  · exact Nat.two_pow_pos _
  · exact valTo_lt _ _ _

/-- A mark: how many ones, r at most, and where the reader stands behind it. -/
def mk (s : ByteArray) : Nat → Nat → Nat → Nat × Nat × Nat
  | 0, pos, st => (0, pos, st)
  | r + 1, pos, st => if (tk s pos st 1).1 = 1 then ((mk s r (tk s pos st 1).2.1 (tk s pos st 1).2.2).1 + 1, (mk s r (tk s pos st 1).2.1 (tk s pos st 1).2.2).2) else (0, (tk s pos st 1).2)

set_option maxRecDepth 100000 in
set_option maxHeartbeats 400000 in
theorem takeMark_any (rb ro pos st last : Nat) (s : ByteArray) (w : World) (H : BR w rb ro s pos st) (hs : s.size ≤ 140737488355328) (hp : pos ≤ 8 * s.size) (hl : last ≤ 4) :
    Calls Tryz.prog 171 #[.pointer (some ⟨rb, ro, none⟩), .int .i64 last] w fun e w' => e = .returned (.int .i64 (mk s last pos st).1) ∧ BR w' rb ro s (mk s last pos st).2.1 (mk s last pos st).2.2 ∧ Read w w' rb ro := by
  have HH := hide H
  clear H
  go_enter Tryz.func171, Tryz.ntmps171
  go_wp2
  go_loopw [5] (fun v wr => ∃ (k p q : Nat), k ≤ last ∧ v = .int .i64 k ∧ p ≤ 8 * s.size ∧ BR wr rb ro s p q ∧ Read w wr rb ro ∧ Hid (mk s last pos st = ((mk s (last - k) p q).1 + k, (mk s (last - k) p q).2))) (fun v _ => last - (intOf v).toNat)
  case atStart => exact ⟨0, pos, st, Nat.zero_le _, rfl, hp, HH.out, Read.refl _ _ _, rfl⟩
  case round =>
    obtain ⟨k, p, q, hk, rfl, hpq, hB, hR, HE⟩ := hrel
    have HB := hide hB
    have HR := hide hR
    clear hB hR HH
    by_cases hlt : k < last
    · have C := hide (take_any rb ro p q 1 s wr HB.out hs hpq (by omega))
      have hp1 := tk_pos s p q 1 hpq
      have hx := tk_lt s p q 1
      have HS : Hid (mk s (last - k) p q = if (tk s p q 1).1 = 1 then ((mk s (last - (k + 1)) (tk s p q 1).2.1 (tk s p q 1).2.2).1 + 1, (mk s (last - (k + 1)) (tk s p q 1).2.1 (tk s p q 1).2.2).2) else (0, (tk s p q 1).2)) := by
        show _ = _
        rw [show last - k = (last - (k + 1)) + 1 by omega, mk]
      generalize tk s p q 1 = t at *
      obtain ⟨t1, t2, t3⟩ := t
      simp only at C hp1 hx HS
      go_wp2_with fail
      refine C.out.mono ?_
      rintro e w2 ⟨rfl, hB2, hR2⟩
      have HB2 := hide hB2
      have HR2 := hide (HR.out.trans hR2)
      clear hB2 hR2 C HB HR
      by_cases h1 : t1 = 1
      · subst h1
        simp only [if_true] at HS
        go_wp2
        go_roundw
        case rel => exact ⟨k + 1, t2, t3, by omega, by go_num, hp1, HB2.out, HR2.out, by show _ = _; rw [HE.out, HS.out]; simp only [Nat.add_assoc, Nat.add_comm 1 k]⟩
        case measure => simp [intOf]; omega
      · have h1b : ((t1 : Int) == 1) = false := by simp; omega
        have hE2 : mk s last pos st = (k, t2, t3) := by rw [HE.out, HS.out, if_neg h1]; simp
        have HE2 := hide hE2
        clear hE2
        go_wp2
        go_ret
        rw [HE2.out]
        exact ⟨rfl, HB2.out, HR2.out⟩
    · have hE2 : mk s last pos st = (k, p, q) := by rw [HE.out, show last - k = 0 by omega, mk]; simp
      have HE2 := hide hE2
      clear hE2
      go_wp2
      go_ret
      rw [HE2.out]
      exact ⟨rfl, HB.out, HR.out⟩
end Go.Proofs.YtamcclcbmenjdaaGreatDoor

/- The byte reader: fail, number. -/
namespace Go.Proofs.YtamcclcbmenjdaaGreatDoor
open Go.RowKit Go.Lib

/-- A byte reader at ⟨yb, yo⟩: what is left, and its state. -/
structure YR (w : World) (yb yo : Nat) (s : ByteArray) (st : Nat) : Prop where
  c0 : w.cell? ⟨yb, yo, none⟩ = some (.string s)
  c1 : w.cell? ⟨yb, yo + 1, none⟩ = some (.int .i64 st)
  f0 : w.frozen? ⟨yb, yo, none⟩ = false
  f1 : w.frozen? ⟨yb, yo + 1, none⟩ = false
/-- What its methods leave: its two cells turn, no more; new blocks may be made. -/
structure Rd (w w' : World) (yb yo : Nat) : Prop where
  os : w'.os = w.os
  tape : w'.tape = w.tape
  output : w'.output = w.output
  size : w.heap.size ≤ w'.heap.size
  block : ∀ k, k < w.heap.size → k ≠ yb → w'.heap[k]? = w.heap[k]?
theorem Rd.refl (w : World) (yb yo : Nat) : Rd w w yb yo := ⟨rfl, rfl, rfl, Nat.le_refl _, fun _ _ _ => rfl⟩
theorem Rd.trans {w w1 w2 : World} {yb yo : Nat} (h : Rd w w1 yb yo) (k : Rd w1 w2 yb yo) : Rd w w2 yb yo :=
  ⟨k.os.trans h.os, k.tape.trans h.tape, k.output.trans h.output, Nat.le_trans h.size k.size, fun i hi hy => (k.block i (Nat.lt_of_lt_of_le hi h.size) hy).trans (h.block i hi hy)⟩
theorem Rd.set {w : World} {yb yo o : Nat} (u : Value) : Rd w (w.setCell ⟨yb, o, none⟩ u) yb yo := ⟨rfl, rfl, rfl, by simp, fun k _ hk => heap_setCell_other _ _ _ _ hk⟩
theorem YR.setLeft {w : World} {yb yo st : Nat} {s : ByteArray} (h : YR w yb yo s st) (t : ByteArray) : YR (w.setCell ⟨yb, yo, none⟩ (.string t)) yb yo t st :=
  ⟨World.cell?_setCell_same _ _ _ h.c0, (World.cell?_setCell_other _ _ _ _ (fun e => absurd (congrArg Addr.off e) (by simp))).trans h.c1, by rw [World.frozen?_setCell]; exact h.f0, by rw [World.frozen?_setCell]; exact h.f1⟩
theorem YR.setState {w : World} {yb yo st : Nat} {s : ByteArray} (h : YR w yb yo s st) (q : Nat) : YR (w.setCell ⟨yb, yo + 1, none⟩ (.int .i64 q)) yb yo s q :=
  ⟨(World.cell?_setCell_other _ _ _ _ (fun e => absurd (congrArg Addr.off e) (by simp))).trans h.c0, World.cell?_setCell_same _ _ _ h.c1, by rw [World.frozen?_setCell]; exact h.f0, by rw [World.frozen?_setCell]; exact h.f1⟩

set_option maxHeartbeats 400000 in
theorem fail_any (yb yo st : Nat) (s : ByteArray) (w : World) (H : YR w yb yo s st) :
    Calls Tryz.prog 132 #[.pointer (some ⟨yb, yo, none⟩)] w fun e w' => e = .returned (.tuple #[]) ∧ YR w' yb yo ⟨#[]⟩ 1 ∧ Rd w w' yb yo := by
  have c0 := H.c0
  have c1 := H.c1
  have f0 := H.f0
  have f1 := H.f1
  have HF := hide ((H.setLeft ⟨#[]⟩).setState 1)
  clear H
  go_enter Tryz.func132, Tryz.ntmps132
  go_wp2
  go_end0
  exact ⟨rfl, HF.out, (Rd.set (yo := yo) _).trans (Rd.set _)⟩

/-- The first k groups of seven bits, the lowest first. -/
def numTo (l : List UInt8) : Nat → Nat
  | 0 => 0
  | k + 1 => numTo l k + ((l.getD k 0).toNat % 128) * 2 ^ (7 * k)
theorem numTo_lt (l : List UInt8) (k : Nat) : numTo l k < 2 ^ (7 * k) := by
  induction k with
  | zero => simp [numTo]
  | succ k ih =>
    have h1 : (l.getD k 0).toNat % 128 < 128 := Nat.mod_lt _ (by decide)
    have h2 : 2 ^ (7 * (k + 1)) = 128 * 2 ^ (7 * k) := by rw [show 7 * (k + 1) = 7 * k + 7 by omega, Nat.pow_add]; omega
    have h3 : ((l.getD k 0).toNat % 128) * 2 ^ (7 * k) ≤ 127 * 2 ^ (7 * k) := Nat.mul_le_mul_right _ (by omega)
    rw [numTo, h2]; omega
/-- A number read, and how many bytes it takes; none: there is none, or it is above most. -/
def rdNum (l : List UInt8) (most : Int) : Nat → Nat → Option (Nat × Nat)
  | 0, _ => none
  | f + 1, k => if 127 < (l.getD k 0).toNat then rdNum l most f (k + 1) else if most < (numTo l (k + 1) : Int) then none else some (numTo l (k + 1), k + 1)

theorem getD_byte (s : ByteArray) (k : Nat) (h : k < s.size) : s.data.toList.getD k 0 = s[k] := by
  rw [List.getD_eq_getElem?_getD, List.getElem?_eq_getElem (by simpa using h)]; rfl
theorem wrap64_nat (n : Nat) (h : n ≤ 9223372036854775807) : wrap64 (n : Int) = (n : Int) := by unfold wrap64; omega
theorem num_or (s : ByteArray) (k : Nat) (h : k < s.size) (hk : k ≤ 8) : Go.bits .or .i64 ((numTo s.data.toList k : Nat) : Int) (wrap64 (wrap64 (Go.bits .and .u8 (s[k].toNat : Int) 127) * 2 ^ (7 * k))) = ((numTo s.data.toList (k + 1) : Nat) : Int) := by
  have h1 : Go.bits .and .u8 (s[k].toNat : Int) 127 = ((s[k].toNat % 128 : Nat) : Int) := by
    have := bits_mask .u8 8 (by decide) wraps_u8 7 (by decide) (s[k].toNat : Int) (Int.natCast_nonneg _) (by have := s[k].toNat_lt; omega)
    simpa using this
  have hp : 2 ^ (7 * k) ≤ 2 ^ 56 := Nat.pow_le_pow_right (by decide) (by omega)
  have hb : s[k].toNat % 128 < 128 := Nat.mod_lt _ (by decide)
  have hprod : (s[k].toNat % 128) * 2 ^ (7 * k) ≤ 127 * 2 ^ 56 := Nat.mul_le_mul (by omega) hp
  have e1 : wrap64 (((s[k].toNat % 128 : Nat) : Int)) = ((s[k].toNat % 128 : Nat) : Int) := wrap64_nat _ (by omega)
  have e2 : (((s[k].toNat % 128 : Nat) : Int) * 2 ^ (7 * k)) = (((s[k].toNat % 128) * 2 ^ (7 * k) : Nat) : Int) := by simp
  have e3 : wrap64 ((((s[k].toNat % 128) * 2 ^ (7 * k) : Nat) : Int)) = (((s[k].toNat % 128) * 2 ^ (7 * k) : Nat) : Int) := wrap64_nat _ (by omega)
  rw [h1, e1, e2, e3, numTo, getD_byte s k h]
  have hn := numTo_lt s.data.toList k
  have hbn := (bits_nat .i64 63 (by decide) Pl.wraps_i64 (numTo s.data.toList k) ((s[k].toNat % 128) * 2 ^ (7 * k)) (by omega) (by omega)).2
  rw [hbn]
  have ho := Nat.two_pow_add_eq_or_of_lt hn (s[k].toNat % 128)
  rw [Nat.or_comm, Nat.mul_comm, ← ho, Nat.add_comm]

/-- What number leaves: the number and the rest, or 0 and nothing. -/
def NumPost (s : ByteArray) (most : Int) (st : Nat) (yb yo : Nat) (w : World) (e : Ending) (w' : World) : Prop :=
  (∃ n k, rdNum s.data.toList most (min s.size 9) 0 = some (n, k) ∧ e = .returned (.int .i64 n) ∧ YR w' yb yo (s.extract k s.size) st ∧ Rd w w' yb yo) ∨
  (rdNum s.data.toList most (min s.size 9) 0 = none ∧ e = .returned (.int .i64 0) ∧ YR w' yb yo ⟨#[]⟩ 1 ∧ Rd w w' yb yo)

set_option maxRecDepth 100000 in
set_option maxHeartbeats 400000 in
theorem number_any (yb yo st : Nat) (s : ByteArray) (most : Int) (w : World) (H : YR w yb yo s st) (hs : s.size ≤ 140737488355328) :
    Calls Tryz.prog 107 #[.pointer (some ⟨yb, yo, none⟩), .int .i64 most] w fun e w' => NumPost s most st yb yo w e w' := by
  have c0 := H.c0
  have c1 := H.c1
  have f0 := H.f0
  have HH := hide H
  have em : (min (s.size : Int) 9) = ((min s.size 9 : Nat) : Int) := by omega
  obtain ⟨M, hM⟩ : ∃ M, M = min s.size 9 := ⟨_, rfl⟩
  have hM1 : M ≤ s.size := by omega
  have hM2 : M ≤ 9 := by omega
  rw [← hM] at em
  have EM := hide hM
  clear H hM
  go_enter Tryz.func107, Tryz.ntmps107
  go_wp2
  go_loop [5, 6, 13] (fun n _ i => ∃ k : Nat, k ≤ M ∧ i = .int .i64 k ∧ n = .int .i64 (numTo s.data.toList k) ∧ Hid (rdNum s.data.toList most M 0 = rdNum s.data.toList most (M - k) k)) (fun _ _ i => M - (intOf i).toNat)
  case atStart => exact ⟨0, Nat.zero_le _, rfl, rfl, rfl⟩
  case round =>
    obtain ⟨k, hk, rfl, rfl, HE⟩ := hrel
    by_cases hlt : k < M
    · have hks : k < s.size := by omega
      have hor := num_or s k hks (by omega)
      have HN : Hid (rdNum s.data.toList most (M - k) k = if 127 < s[k].toNat then rdNum s.data.toList most (M - (k + 1)) (k + 1) else if most < (numTo s.data.toList (k + 1) : Int) then none else some (numTo s.data.toList (k + 1), k + 1)) := by
        show _ = _
        rw [show M - k = (M - (k + 1)) + 1 by omega, rdNum, getD_byte s k hks]
      have hnb : numTo s.data.toList (k + 1) < 9223372036854775808 := Nat.lt_of_lt_of_le (numTo_lt _ _) (Nat.pow_le_pow_right (by decide) (by omega : 7 * (k + 1) ≤ 63))
      generalize hN1 : numTo s.data.toList (k + 1) = N1 at *
      have HN1 := hide hN1
      clear hN1
      by_cases hbig : 127 < s[k].toNat
      · have hend : rdNum s.data.toList most M 0 = rdNum s.data.toList most (M - (k + 1)) (k + 1) := by rw [HE.out, HN.out, if_pos hbig]
        have HEnd := hide hend
        clear hend HE HN
        go_wp2
        go_round
        case rel => exact ⟨k + 1, by omega, by go_num, val_int (by rw [HN1.out]), HEnd.out⟩
        case measure => simp [intOf]; omega
      · by_cases hmost : most < (N1 : Int)
        · have hend : rdNum s.data.toList most M 0 = none := by rw [HE.out, HN.out, if_neg hbig, if_pos hmost]
          have C := hide (fail_any yb yo st s w HH.out)
          have HEnd := hide hend
          clear hend HE HN
          go_wp2_with fail
          refine C.out.mono ?_
          rintro e w2 ⟨rfl, hY, hR⟩
          have HY := hide hY
          have HR := hide hR
          clear hY hR c0 c1 f0
          go_wp2
          go_ret
          exact .inr ⟨by rw [← EM.out]; exact HEnd.out, rfl, HY.out, HR.out⟩
        · have hend : rdNum s.data.toList most M 0 = some (N1, k + 1) := by rw [HE.out, HN.out, if_neg hbig, if_neg hmost]
          have HEnd := hide hend
          have HF := hide (HH.out.setLeft (s.extract (k + 1) s.size))
          clear hend HE HN
          go_wp2
          go_ret
          exact .inl ⟨N1, k + 1, by rw [← EM.out]; exact HEnd.out, rfl, HF.out, Rd.set _⟩
    · have hend : rdNum s.data.toList most M 0 = none := by rw [HE.out, show M - k = 0 by omega, rdNum]
      have C := hide (fail_any yb yo st s w HH.out)
      have HEnd := hide hend
      clear hend
      go_wp2_with fail
      refine C.out.mono ?_
      rintro e w2 ⟨rfl, hY, hR⟩
      have HY := hide hY
      have HR := hide hR
      clear hY hR c0 c1 f0
      go_wp2
      go_ret
      exact .inr ⟨by rw [← EM.out]; exact HEnd.out, rfl, HY.out, HR.out⟩
end Go.Proofs.YtamcclcbmenjdaaGreatDoor

/- The byte reader: text. -/
namespace Go.Proofs.YtamcclcbmenjdaaGreatDoor
open Go.RowKit Go.Lib

/-- What text leaves: the text and the rest, or an empty one and nothing. -/
def TextPost (s : ByteArray) (most : Int) (st : Nat) (yb yo : Nat) (w : World) (e : Ending) (w' : World) : Prop :=
  (∃ n k, rdNum s.data.toList most (min s.size 9) 0 = some (n, k) ∧ n ≤ s.size - k ∧ e = .returned (.string ((s.extract k s.size).extract 0 n)) ∧ YR w' yb yo ((s.extract k s.size).extract n (s.extract k s.size).size) st ∧ Rd w w' yb yo) ∨
  ((∀ n k, rdNum s.data.toList most (min s.size 9) 0 = some (n, k) → ¬ n ≤ s.size - k) ∧ e = .returned (.string ⟨#[]⟩) ∧ YR w' yb yo ⟨#[]⟩ 1 ∧ Rd w w' yb yo)

set_option maxRecDepth 100000 in
set_option maxHeartbeats 400000 in
theorem text_any (yb yo st : Nat) (s : ByteArray) (most : Int) (w : World) (H : YR w yb yo s st) (hs : s.size ≤ 140737488355328) :
    Calls Tryz.prog 131 #[.pointer (some ⟨yb, yo, none⟩), .int .i64 most] w fun e w' => TextPost s most st yb yo w e w' := by
  have C := hide (number_any yb yo st s most w H hs)
  clear H
  go_enter Tryz.func131, Tryz.ntmps131
  go_wp2_with fail
  refine C.out.mono ?_
  rintro e w1 (⟨n, k, hr, rfl, hY, hR⟩ | ⟨hr, rfl, hY, hR⟩)
  · have hsz : (s.extract k s.size).size = s.size - k := by simp
    generalize ht : s.extract k s.size = t at *
    have HT := hide ht
    clear ht
    have c0 := hY.c0
    have f0 := hY.f0
    have HR := hide hR
    have HE := hide hr
    have HSz := hide hsz
    by_cases hn : n ≤ t.size
    · have HY := hide (hY.setLeft (t.extract n t.size))
      clear hY hR hr hsz C
      go_wp2
      go_ret
      have h := HT.out
      subst h
      exact .inl ⟨n, k, HE.out, by rw [← HSz.out]; exact hn, rfl, HY.out, HR.out.trans (Rd.set _)⟩
    · have CF := hide (fail_any yb yo st t w1 hY)
      clear hY hR hr hsz C
      have hnd : (t.size : Int) < n := by omega
      go_wp2_with fail
      refine CF.out.mono ?_
      rintro e w2 ⟨rfl, hY2, hR2⟩
      have HY2 := hide hY2
      have HR2 := hide (HR.out.trans hR2)
      clear hY2 hR2 CF HR
      go_wp2
      go_ret
      exact .inr ⟨(fun n' k' h => by rw [HE.out] at h; cases h; rw [← HSz.out]; exact hn), rfl, HY2.out, HR2.out⟩
  · have c0 := hY.c0
    have f0 := hY.f0
    have HR := hide hR
    have HE := hide hr
    have HY := hide (hY.setLeft ⟨#[]⟩)
    clear hY hR hr C
    go_wp2
    go_ret
    exact .inr ⟨(fun n' k' h => by rw [HE.out] at h; cases h), rfl, HY.out, HR.out.trans (Rd.set _)⟩
end Go.Proofs.YtamcclcbmenjdaaGreatDoor

/- The byte reader's answers as functions of what is left. -/
namespace Go.Proofs.YtamcclcbmenjdaaGreatDoor
open Go.RowKit Go.Lib

/-- A number: it, what is left, the state. -/
def numR (s : ByteArray) (most : Int) (st : Nat) : Nat × ByteArray × Nat :=
  match rdNum s.data.toList most (min s.size 9) 0 with
  | some (n, k) => (n, s.extract k s.size, st)
  | none => (0, ⟨#[]⟩, 1)
/-- A text: it, what is left, the state. -/
def textR (s : ByteArray) (most : Int) (st : Nat) : ByteArray × ByteArray × Nat :=
  match rdNum s.data.toList most (min s.size 9) 0 with
  | some (n, k) => if n ≤ s.size - k then ((s.extract k s.size).extract 0 n, (s.extract k s.size).extract n (s.extract k s.size).size, st) else (⟨#[]⟩, ⟨#[]⟩, 1)
  | none => (⟨#[]⟩, ⟨#[]⟩, 1)

theorem rdNum_le (l : List UInt8) (most : Int) (f k n j : Nat) (h : rdNum l most f k = some (n, j)) : (n : Int) ≤ most := by
  induction f generalizing k with
  | zero => cases h
  | succ f ih =>
    rw [rdNum] at h
    split at h
    · exact ih _ h
    · split at h
      · cases h
      · cases h; omega
theorem numR_le (s : ByteArray) (most : Int) (st : Nat) (h0 : 0 ≤ most) : ((numR s most st).1 : Int) ≤ most := by
  unfold numR
  split
  · rename_i h; exact rdNum_le _ _ _ _ _ _ h
  · exact h0
theorem numR_ok (s : ByteArray) (most : Int) (st : Nat) (h : (numR s most st).2.2 ≠ 1) : ((numR s most st).1 : Int) ≤ most := by
  unfold numR at *
  split
  · rename_i h; exact rdNum_le _ _ _ _ _ _ h
  · rename_i h1; rw [h1] at h; exact absurd rfl h
theorem numR_size (s : ByteArray) (most : Int) (st : Nat) : (numR s most st).2.1.size ≤ s.size := by
  unfold numR; split
  · simp
  · exact Nat.zero_le _
theorem numR_st (s : ByteArray) (most : Int) (st : Nat) (h : st ≤ 1) : (numR s most st).2.2 ≤ 1 := by
  unfold numR; split <;> simp [h]
theorem textR_size (s : ByteArray) (most : Int) (st : Nat) : (textR s most st).2.1.size ≤ s.size := by
  unfold textR; split
  · split
    · simp; omega
    · exact Nat.zero_le _
  · exact Nat.zero_le _
theorem textR_len (s : ByteArray) (most : Int) (st : Nat) : (textR s most st).1.size ≤ s.size := by
  unfold textR; split
  · split
    · simp; omega
    · exact Nat.zero_le _
  · exact Nat.zero_le _
theorem textR_st (s : ByteArray) (most : Int) (st : Nat) (h : st ≤ 1) : (textR s most st).2.2 ≤ 1 := by
  unfold textR; split
  · split <;> simp [h]
  · simp

theorem number_is (yb yo st : Nat) (s : ByteArray) (most : Int) (w : World) (H : YR w yb yo s st) (hs : s.size ≤ 140737488355328) :
    Calls Tryz.prog 107 #[.pointer (some ⟨yb, yo, none⟩), .int .i64 most] w fun e w' => e = .returned (.int .i64 ((numR s most st).1 : Nat)) ∧ YR w' yb yo (numR s most st).2.1 (numR s most st).2.2 ∧ Rd w w' yb yo := by
  refine (number_any yb yo st s most w H hs).mono ?_
  rintro e w' (⟨n, k, hr, rfl, hY, hR⟩ | ⟨hr, rfl, hY, hR⟩) <;> simp only [numR, hr]
  · exact ⟨trivial, hY, hR⟩
  · exact ⟨by simp, hY, hR⟩
theorem text_is (yb yo st : Nat) (s : ByteArray) (most : Int) (w : World) (H : YR w yb yo s st) (hs : s.size ≤ 140737488355328) :
    Calls Tryz.prog 131 #[.pointer (some ⟨yb, yo, none⟩), .int .i64 most] w fun e w' => e = .returned (.string (textR s most st).1) ∧ YR w' yb yo (textR s most st).2.1 (textR s most st).2.2 ∧ Rd w w' yb yo := by
  refine (text_any yb yo st s most w H hs).mono ?_
  rintro e w' (⟨n, k, hr, hn, rfl, hY, hR⟩ | ⟨hr, rfl, hY, hR⟩)
  · simp only [textR, hr, if_pos hn]
    exact ⟨trivial, hY, hR⟩
  · have e : textR s most st = (⟨#[]⟩, ⟨#[]⟩, 1) := by
      unfold textR
      split
      · rename_i n k h; rw [if_neg (hr n k h)]
      · rfl
    rw [e]
    exact ⟨rfl, hY, hR⟩
end Go.Proofs.YtamcclcbmenjdaaGreatDoor

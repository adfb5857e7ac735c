/- The bit reader: take. -/
import Derived.Test.YtcidgfdiacehmaaDoorEncode
namespace Go.Proofs.YtcidgfdiacehmaaDoor
open Go.RowKit Go.Lib

/-- A bit reader at ⟨rb, ro⟩: at the bit 'at' of s, in state st. -/
structure BR (w : World) (rb ro : Nat) (s : ByteArray) (pos st : Nat) : Prop where
  c0 : w.cell? ⟨rb, ro, none⟩ = some (.string s)
  c1 : w.cell? ⟨rb, ro + 1, none⟩ = some (.int .i64 pos)
  c2 : w.cell? ⟨rb, ro + 2, none⟩ = some (.int .i64 st)
  f1 : w.frozen? ⟨rb, ro + 1, none⟩ = false
  f2 : w.frozen? ⟨rb, ro + 2, none⟩ = false
/-- What its methods leave: the two numbers behind its text turn, no more. -/
structure Read (w w' : World) (rb ro : Nat) : Prop where
  os : w'.os = w.os
  tape : w'.tape = w.tape
  output : w'.output = w.output
  size : w.heap.size = w'.heap.size
  block : ∀ k, k ≠ rb → w'.heap[k]? = w.heap[k]?
  cells : ∀ o, o ≠ ro + 1 → o ≠ ro + 2 → w'.cell? ⟨rb, o, none⟩ = w.cell? ⟨rb, o, none⟩
  frozen : ∀ o, w'.frozen? ⟨rb, o, none⟩ = w.frozen? ⟨rb, o, none⟩
theorem Read.refl (w : World) (rb ro : Nat) : Read w w rb ro := ⟨rfl, rfl, rfl, rfl, fun _ _ => rfl, fun _ _ _ => rfl, fun _ => rfl⟩
theorem Read.trans {w w1 w2 : World} {rb ro : Nat} (h : Read w w1 rb ro) (k : Read w1 w2 rb ro) : Read w w2 rb ro :=
  ⟨k.os.trans h.os, k.tape.trans h.tape, k.output.trans h.output, h.size.trans k.size, fun i hi => (k.block i hi).trans (h.block i hi), fun o h1 h2 => (k.cells o h1 h2).trans (h.cells o h1 h2), fun o => (k.frozen o).trans (h.frozen o)⟩
theorem Read.drewN {w w1 : World} {rb ro : Nat} (h : Read w w1 rb ro) (q : Nat) : Read w (w1.drewN q) rb ro := ⟨h.os, h.tape, h.output, h.size, h.block, h.cells, h.frozen⟩
theorem Read.set {w : World} {rb ro o : Nat} (u : Value) (ho : o = ro + 1 ∨ o = ro + 2) : Read w (w.setCell ⟨rb, o, none⟩ u) rb ro :=
  ⟨rfl, rfl, rfl, by simp, fun k hk => heap_setCell_other _ _ _ _ hk, fun j h1 h2 => World.cell?_setCell_other _ _ _ _ (fun e => by have : o = j := congrArg Addr.off e; omega), fun j => by rw [World.frozen?_setCell]⟩
theorem BR.drewN {w : World} {rb ro pos st : Nat} {s : ByteArray} (h : BR w rb ro s pos st) (q : Nat) : BR (w.drewN q) rb ro s pos st := ⟨h.c0, h.c1, h.c2, h.f1, h.f2⟩
theorem BR.setPos {w : World} {rb ro pos st : Nat} {s : ByteArray} (h : BR w rb ro s pos st) (p : Nat) : BR (w.setCell ⟨rb, ro + 1, none⟩ (.int .i64 p)) rb ro s p st := by
  refine ⟨?_, World.cell?_setCell_same _ _ _ h.c1, ?_, by rw [World.frozen?_setCell]; exact h.f1, by rw [World.frozen?_setCell]; exact h.f2⟩
  · rw [World.cell?_setCell_other _ _ _ _ (fun e => absurd (congrArg Addr.off e) (by simp))]; exact h.c0
  · rw [World.cell?_setCell_other _ _ _ _ (fun e => absurd (congrArg Addr.off e) (by simp))]; exact h.c2
theorem BR.setState {w : World} {rb ro pos st : Nat} {s : ByteArray} (h : BR w rb ro s pos st) (p : Nat) : BR (w.setCell ⟨rb, ro + 2, none⟩ (.int .i64 p)) rb ro s pos p := by
  refine ⟨?_, ?_, World.cell?_setCell_same _ _ _ h.c2, by rw [World.frozen?_setCell]; exact h.f1, by rw [World.frozen?_setCell]; exact h.f2⟩
  · rw [World.cell?_setCell_other _ _ _ _ (fun e => absurd (congrArg Addr.off e) (by simp))]; exact h.c0
  · rw [World.cell?_setCell_other _ _ _ _ (fun e => absurd (congrArg Addr.off e) (by simp))]; exact h.c1

/-- The bit number i, and the number that k bits from i on make. -/
def bitAt (l : List UInt8) (i : Nat) : Nat := (l.getD (i / 8) 0).toNat / 2 ^ (7 - i % 8) % 2
def valTo (l : List UInt8) (i : Nat) : Nat → Nat
  | 0 => 0
  | k + 1 => 2 * valTo l i k + bitAt l (i + k)
theorem valTo_lt (l : List UInt8) (i k : Nat) : valTo l i k < 2 ^ k := by
  induction k with
  | zero => simp [valTo]
  | succ k ih => rw [valTo, Nat.pow_succ]; have : bitAt l (i + k) < 2 := Nat.mod_lt _ (by decide); omega

theorem and_bit (s : ByteArray) (m : Nat) (h : m / 8 < s.size) : Go.bits .and .u8 ((s[m / 8].toNat : Int) / 2 ^ (7 - m % 8)) 1 = ((bitAt s.data.toList m : Nat) : Int) := by
  have e : s.data.toList.getD (m / 8) 0 = s[m / 8] := by
    rw [List.getD_eq_getElem?_getD, List.getElem?_eq_getElem (by simpa using h)]; rfl
  have hx : ((s[m / 8].toNat : Int) / 2 ^ (7 - m % 8)) = ((s[m / 8].toNat / 2 ^ (7 - m % 8) : Nat) : Int) := by simp
  have hlt : s[m / 8].toNat / 2 ^ (7 - m % 8) < 2 ^ 8 := Nat.lt_of_le_of_lt (Nat.div_le_self _ _) s[m / 8].toNat_lt
  have hb := bits_mask .u8 8 (by decide) wraps_u8 1 (by decide) ((s[m / 8].toNat / 2 ^ (7 - m % 8) : Nat) : Int) (Int.natCast_nonneg _) (by exact_mod_cast hlt)
  rw [hx, bitAt, e]
  simpa using hb
theorem or_bit64 (V b : Nat) (hV : V < 9223372036854775808) (hb : b ≤ 1) : Go.bits .or .u64 ((V : Int) * 2) (b : Int) = ((2 * V + b : Nat) : Int) := by
  have h := bits_join .u64 64 (by decide) (fun n h0 h1 => by rw [IntKind.wrap_u64]; omega) 1 ((V : Int) * 2) b (by omega) (by omega) (by omega) (by omega) (by omega) (by omega)
  rw [h]; omega

set_option maxRecDepth 100000 in
set_option maxHeartbeats 400000 in
/-- Too few bits are left: 0, and it is broken. -/
theorem take_short (rb ro pos st width : Nat) (s : ByteArray) (w : World) (H : BR w rb ro s pos st) (hs : s.size ≤ 140737488355328) (hp : pos ≤ 8 * s.size) (hw : width ≤ 64) (hsh : 8 * s.size < pos + width) :
    Calls Tryd.prog 82 #[.pointer (some ⟨rb, ro, none⟩), .int .i64 width] w fun e w' => e = .returned (.int .u64 0) ∧ BR w' rb ro s pos 1 ∧ Read w w' rb ro := by
  have c0 := H.c0
  have c1 := H.c1
  have c2 := H.c2
  have f2 := H.f2
  have HF := hide fun q => (H.drewN q).setState 1
  have ht : (8 : Int) * s.size - pos < width := by omega
  have hb1 : IntKind.i64.wrap ((8 : Int) * s.size) = 8 * s.size := by rw [IntKind.wrap_i64]; omega
  have hb2 : IntKind.i64.wrap ((8 : Int) * s.size - pos) = 8 * s.size - pos := by rw [IntKind.wrap_i64]; omega
  clear H
  go_enter Tryd.func82, Tryd.ntmps82
  go_wp2
  go_quiet (fail)
  go_wp2
  go_ret
  exact ⟨rfl, HF.out _, ((Read.refl w rb ro).drewN _).trans (Read.set _ (.inr rfl))⟩

set_option maxRecDepth 100000 in
set_option maxHeartbeats 400000 in
theorem take_long (rb ro pos st width : Nat) (s : ByteArray) (w : World) (H : BR w rb ro s pos st) (hs : s.size ≤ 140737488355328) (hw : width ≤ 64) (hsh : pos + width ≤ 8 * s.size) :
    Calls Tryd.prog 82 #[.pointer (some ⟨rb, ro, none⟩), .int .i64 width] w fun e w' => e = .returned (.int .u64 (valTo s.data.toList pos width)) ∧ BR w' rb ro s (pos + width) st ∧ Read w w' rb ro := by
  have c0 := H.c0
  have c1 := H.c1
  have ht : ¬ ((8 : Int) * s.size - pos < width) := by omega
  have htd : decide ((8 : Int) * s.size - pos < width) = false := decide_eq_false ht
  have hb1 : IntKind.i64.wrap ((8 : Int) * s.size) = 8 * s.size := by rw [IntKind.wrap_i64]; omega
  have hb2 : IntKind.i64.wrap ((8 : Int) * s.size - pos) = 8 * s.size - pos := by rw [IntKind.wrap_i64]; omega
  have HH := hide H
  clear H
  go_enter Tryd.func82, Tryd.ntmps82
  go_wp2
  go_quiet (fail)
  clear hb1 hb2 htd ht c0 c1
  go_wp2
  go_loopw [5, 6, 24] (fun n _ i wr => ∃ k : Nat, k ≤ width ∧ i = .int .i64 k ∧ n = .int .u64 (valTo s.data.toList pos k) ∧ BR wr rb ro s (pos + k) st ∧ Read w wr rb ro) (fun _ _ i _ => width - (intOf i).toNat)
  case atStart => exact ⟨0, Nat.zero_le _, rfl, rfl, by simpa using HH.out.drewN _, (Read.refl w rb ro).drewN _⟩
  case round =>
    obtain ⟨k, hk, rfl, rfl, hB, hR⟩ := hrel
    obtain ⟨m, hm⟩ : ∃ m, m = pos + k := ⟨_, rfl⟩
    rw [← hm] at hB
    have HM := hide hm
    have hmb : m ≤ 8 * s.size := by omega
    have HB := hide hB
    have HR := hide hR
    have c0 := hB.c0
    have c1 := hB.c1
    have f1 := hB.f1
    clear hB hR HH
    by_cases hlt : k < width
    · have hq8 : m / 8 < s.size := by omega
      have hq9 : (m : Int) / 8 < (s.size : Int) := by omega
      have hm1 : m ≤ 1125899906842624 := by omega
      have hw8 : IntKind.i64.wrap ((m : Int) / 8) = (m : Int) / 8 := by rw [IntKind.wrap_i64]; omega
      have h08 : 0 ≤ (m : Int) / 8 := by omega
      have htn : ((m : Int) / 8).toNat = m / 8 := by omega
      have hbit := and_bit s m hq8
      have hβ : bitAt s.data.toList m ≤ 1 := by have : bitAt s.data.toList m < 2 := Nat.mod_lt _ (by decide); omega
      have hV : valTo s.data.toList pos k < 9223372036854775808 := Nat.lt_of_lt_of_le (valTo_lt _ _ k) (Nat.pow_le_pow_right (by decide) (by omega : k ≤ 63))
      have hnext : valTo s.data.toList pos (k + 1) = 2 * valTo s.data.toList pos k + bitAt s.data.toList m := by rw [valTo, hm]
      have HNx := hide hnext
      clear hm hnext
      generalize bitAt s.data.toList m = β at *
      generalize valTo s.data.toList pos k = V at *
      have hor := or_bit64 V β hV hβ
      go_wp2
      go_region
      have HB2 : Hid (BR (wr.setCell ⟨rb, ro + 1, none⟩ (.int .i64 ((m : Int) + 1))).drew rb ro s (pos + (k + 1)) st) := by
        have h := (HB.out.setPos (m + 1)).drewN 1
        have e : m + 1 = pos + (k + 1) := by rw [HM.out]; omega
        rw [← e]
        have e2 : ((m + 1 : Nat) : Int) = (m : Int) + 1 := by omega
        rw [e2] at h
        exact h
      have HR2 : Hid (Read w (wr.setCell ⟨rb, ro + 1, none⟩ (.int .i64 ((m : Int) + 1))).drew rb ro) := (HR.out.trans (Read.set _ (.inl rfl))).drewN 1
      clear HB HR HM
      go_wp2
      go_roundw
      case rel => exact ⟨k + 1, by omega, by go_num, val_int (by rw [HNx.out]; simp), HB2.out, HR2.out⟩
      case measure => simp [intOf]; omega
    · have hke : k = width := by omega
      rw [hke] at hm
      have HX := hide (show BR wr rb ro s (pos + width) st by rw [← hm]; exact HB.out)
      have HV : Hid (valTo s.data.toList pos k = valTo s.data.toList pos width) := by show _ = _; rw [hke]
      clear hm hke HM HB
      go_wp2
      go_ret
      exact ⟨ret_int (by rw [HV.out]), HX.out, HR.out⟩
end Go.Proofs.YtcidgfdiacehmaaDoor

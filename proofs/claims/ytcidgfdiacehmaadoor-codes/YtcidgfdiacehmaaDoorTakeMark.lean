/- The bit reader: take in one word, takeMark. -/
import Derived.Test.YtcidgfdiacehmaaDoorTake
namespace Go.Proofs.YtcidgfdiacehmaaDoor
open Go.RowKit Go.Lib

/-- What take answers, and where the reader stands behind it. -/
def tk (s : ByteArray) (pos st width : Nat) : Nat × Nat × Nat := if 8 * s.size < pos + width then (0, pos, 1) else (valTo s.data.toList pos width, pos + width, st)
theorem take_any (rb ro pos st width : Nat) (s : ByteArray) (w : World) (H : BR w rb ro s pos st) (hs : s.size ≤ 140737488355328) (hp : pos ≤ 8 * s.size) (hw : width ≤ 64) :
    Calls Tryd.prog 82 #[.pointer (some ⟨rb, ro, none⟩), .int .i64 width] w fun e w' => e = .returned (.int .u64 (tk s pos st width).1) ∧ BR w' rb ro s (tk s pos st width).2.1 (tk s pos st width).2.2 ∧ Read w w' rb ro := by
  by_cases h : 8 * s.size < pos + width
  · have e : tk s pos st width = (0, pos, 1) := if_pos h
    rw [e]
    exact take_short rb ro pos st width s w H hs hp hw h
  · have e : tk s pos st width = (valTo s.data.toList pos width, pos + width, st) := if_neg h
    rw [e]
    exact take_long rb ro pos st width s w H hs hw (by omega)
theorem tk_pos (s : ByteArray) (pos st width : Nat) (hp : pos ≤ 8 * s.size) : (tk s pos st width).2.1 ≤ 8 * s.size := by
  unfold tk; split
  · exact hp
  · show pos + width ≤ _; omega
theorem tk_lt (s : ByteArray) (pos st width : Nat) : (tk s pos st width).1 < 2 ^ width := by
  unfold tk; split
  · exact Nat.two_pow_pos _
  · exact valTo_lt _ _ _

/-- A mark: how many ones, r at most, and where the reader stands behind it. -/
def mk (s : ByteArray) : Nat → Nat → Nat → Nat × Nat × Nat
  | 0, pos, st => (0, pos, st)
  | r + 1, pos, st => if (tk s pos st 1).1 = 1 then ((mk s r (tk s pos st 1).2.1 (tk s pos st 1).2.2).1 + 1, (mk s r (tk s pos st 1).2.1 (tk s pos st 1).2.2).2) else (0, (tk s pos st 1).2)

set_option maxRecDepth 100000 in
set_option maxHeartbeats 400000 in
theorem takeMark_any (rb ro pos st last : Nat) (s : ByteArray) (w : World) (H : BR w rb ro s pos st) (hs : s.size ≤ 140737488355328) (hp : pos ≤ 8 * s.size) (hl : last ≤ 4) :
    Calls Tryd.prog 106 #[.pointer (some ⟨rb, ro, none⟩), .int .i64 last] w fun e w' => e = .returned (.int .i64 (mk s last pos st).1) ∧ BR w' rb ro s (mk s last pos st).2.1 (mk s last pos st).2.2 ∧ Read w w' rb ro := by
  have HH := hide H
  clear H
  go_enter Tryd.func106, Tryd.ntmps106
  go_wp2
  go_loopw [5] (fun v wr => ∃ (k p q : Nat), k ≤ last ∧ v = .int .i64 k ∧ p ≤ 8 * s.size ∧ BR wr rb ro s p q ∧ Read w wr rb ro ∧ Hid (mk s last pos st = ((mk s (last - k) p q).1 + k, (mk s (last - k) p q).2))) (fun v _ => last - (intOf v).toNat)
  case atStart => exact ⟨0, pos, st, Nat.zero_le _, rfl, hp, HH.out, Read.refl _ _ _, rfl⟩
  case round =>
    obtain ⟨k, p, q, hk, rfl, hpq, hB, hR, HE⟩ := hrel
    have HB := hide hB
    have HR := hide hR
    clear hB hR HH
    by_cases hlt : k < last
    · have C := hide (take_any rb ro p q 1 s wr HB.out hs hpq (by omega))
      have hp1 := tk_pos s p q 1 hpq
      have hx := tk_lt s p q 1
      have HS : Hid (mk s (last - k) p q = if (tk s p q 1).1 = 1 then ((mk s (last - (k + 1)) (tk s p q 1).2.1 (tk s p q 1).2.2).1 + 1, (mk s (last - (k + 1)) (tk s p q 1).2.1 (tk s p q 1).2.2).2) else (0, (tk s p q 1).2)) := by
        show _ = _
        rw [show last - k = (last - (k + 1)) + 1 by omega, mk]
      generalize tk s p q 1 = t at *
      obtain ⟨t1, t2, t3⟩ := t
      simp only at C hp1 hx HS
      go_wp2_with fail
      refine C.out.mono ?_
      rintro e w2 ⟨rfl, hB2, hR2⟩
      have HB2 := hide hB2
      have HR2 := hide (HR.out.trans hR2)
      clear hB2 hR2 C HB HR
      by_cases h1 : t1 = 1
      · subst h1
        simp only [if_true] at HS
        go_wp2
        go_roundw
        case rel => exact ⟨k + 1, t2, t3, by omega, by go_num, hp1, HB2.out, HR2.out, by show _ = _; rw [HE.out, HS.out]; simp only [Nat.add_assoc, Nat.add_comm 1 k]⟩
        case measure => simp [intOf]; omega
      · have h1b : ((t1 : Int) == 1) = false := by simp; omega
        have hE2 : mk s last pos st = (k, t2, t3) := by rw [HE.out, HS.out, if_neg h1]; simp
        have HE2 := hide hE2
        clear hE2
        go_wp2
        go_ret
        rw [HE2.out]
        exact ⟨rfl, HB2.out, HR2.out⟩
    · have hE2 : mk s last pos st = (k, p, q) := by rw [HE.out, show last - k = 0 by omega, mk]; simp
      have HE2 := hide hE2
      clear hE2
      go_wp2
      go_ret
      rw [HE2.out]
      exact ⟨rfl, HB.out, HR.out⟩
end Go.Proofs.YtcidgfdiacehmaaDoor

/- The bit writer: put, putMark. -/
import Derived.Test.YtcidgfdiacehmaaDoorBits
namespace Go.Proofs.YtcidgfdiacehmaaDoor
open Go.RowKit

theorem and1_shift (n j : Nat) (hn : n < 18446744073709551616) : Go.bits .and .u64 ((n : Int) / 2 ^ j) 1 % 256 = ((n / 2 ^ j % 2 : Nat) : Int) := by
  have h1 : ((n : Int) / 2 ^ j) = ((n / 2 ^ j : Nat) : Int) := by simp
  have hlt : n / 2 ^ j < 18446744073709551616 := Nat.lt_of_le_of_lt (Nat.div_le_self _ _) hn
  have h2 := bits_and_u64_nat (n / 2 ^ j) 1 hlt (by decide)
  rw [h1]
  rw [show ((1 : Nat) : Int) = 1 from rfl] at h2
  rw [h2, Nat.and_one_is_mod]
  omega

set_option maxRecDepth 100000 in
set_option maxHeartbeats 400000 in
theorem put_any (pb po n width : Nat) (v : Value) (w : World) (bits : List Bool) (hn : n < 18446744073709551616) (hwd : width ≤ 64) (hnb : bits.length ≤ 1000000000) (H : BW w pb po v bits) :
    Calls Tryd.prog 78 #[.pointer (some ⟨pb, po, none⟩), .int .u64 n, .int .i64 width] w fun e w' => e = .returned (.tuple #[]) ∧
      ∃ v', BW w' pb po v' (bits ++ Pl.bitsOf n width) ∧ Wrote w w' pb po v.ownBlock ∧ Heir w v v' := by
  go_enter Tryd.func78, Tryd.ntmps78
  go_wp2
  go_loopw [6] (fun i wr => ∃ (k : Nat) (done : List Bool) (v' : Value), k ≤ width ∧ i = .int .i64 ((k : Int) - 1) ∧ done.length + k = width ∧ Hid (done ++ Pl.bitsOf n k = Pl.bitsOf n width) ∧ BW wr pb po v' (bits ++ done) ∧ Wrote w wr pb po v.ownBlock ∧ Heir w v v') (fun i _ => (intOf i + 1).toNat)
  case atStart => exact ⟨width, [], v, Nat.le_refl _, rfl, by simp, rfl, by simpa using H, Wrote.refl _ _ _ _, Heir.refl _ _⟩
  case round =>
    obtain ⟨k, done, v', hk, rfl, hl, HD, hbw, hwr, hh⟩ := hrel
    have HB := hide hbw
    have HW := hide hwr
    have HH := hide hh
    clear hbw hwr hh H
    cases k with
    | zero =>
      go_wp2_with fail
      go_end0
      have e : done = Pl.bitsOf n width := by have := HD.out; simpa [Pl.bitsOf] using this
      exact ⟨rfl, v', by rw [← e]; exact HB.out, HW.out, HH.out⟩
    | succ j =>
      have harg := and1_shift n j hn
      go_wp2_with fail
      rw [harg]
      refine (putBit_any pb po (n / 2 ^ j % 2) v' wr _ (by omega) (by simp; omega) HB.out).mono ?_
      rintro e w' ⟨rfl, v2, hb2, hw2, hh2⟩
      have B2 := hide hb2
      have W2 := hide (HW.out.trans hw2 HH.out)
      have H2 := hide (HH.out.trans hh2 HW.out.size)
      clear hb2 hw2 hh2 HB HW HH harg
      go_wp2
      go_roundw
      case rel => exact ⟨j, done ++ [n / 2 ^ j % 2 == 1], v2, by omega, by go_num, by simp; omega, by show _ = _; rw [← HD.out]; simp [Pl.bitsOf], by rw [← List.append_assoc]; exact B2.out, W2.out, H2.out⟩
      case measure => simp [intOf]

/-- A mark: so many ones, and a zero where it is not the last. -/
def markOf (v last : Nat) : List Bool := List.replicate v true ++ (if v < last then [false] else [])

set_option maxRecDepth 100000 in
set_option maxHeartbeats 400000 in
theorem putMark_any (pb po q last : Nat) (v : Value) (w : World) (bits : List Bool) (hq : q ≤ 4) (hlast : last ≤ 4) (hnb : bits.length ≤ 1000000000) (H : BW w pb po v bits) :
    Calls Tryd.prog 101 #[.pointer (some ⟨pb, po, none⟩), .int .i64 q, .int .i64 last] w fun e w' => e = .returned (.tuple #[]) ∧
      ∃ v', BW w' pb po v' (bits ++ markOf q last) ∧ Wrote w w' pb po v.ownBlock ∧ Heir w v v' := by
  go_enter Tryd.func101, Tryd.ntmps101
  go_wp2
  go_loopw [7] (fun i wr => ∃ (k : Nat) (v' : Value), k ≤ q ∧ i = .int .i64 k ∧ BW wr pb po v' (bits ++ List.replicate k true) ∧ Wrote w wr pb po v.ownBlock ∧ Heir w v v') (fun i _ => q - (intOf i).toNat)
  case atStart => exact ⟨0, v, Nat.zero_le _, rfl, by simpa using H, Wrote.refl _ _ _ _, Heir.refl _ _⟩
  case round =>
    obtain ⟨k, v', hk, rfl, hbw, hwr, hh⟩ := hrel
    have HB := hide hbw
    have HW := hide hwr
    have HH := hide hh
    clear hbw hwr hh H
    by_cases hlt : k < q
    · go_wp2_with fail
      refine (putBit_any pb po 1 v' wr _ (by omega) (by simp; omega) HB.out).mono ?_
      rintro e w' ⟨rfl, v2, hb2, hw2, hh2⟩
      have B2 := hide hb2
      have W2 := hide (HW.out.trans hw2 HH.out)
      have H2 := hide (HH.out.trans hh2 HW.out.size)
      clear hb2 hw2 hh2 HB HW HH
      go_wp2
      go_roundw
      case rel => exact ⟨k + 1, v2, by omega, by go_num, by rw [List.replicate_succ', ← List.append_assoc]; exact B2.out, W2.out, H2.out⟩
      case measure => simp [intOf]; omega
    · obtain rfl : k = q := by omega
      by_cases hl : k < last
      · go_wp2_with fail
        refine (putBit_any pb po 0 v' wr _ (by omega) (by simp; omega) HB.out).mono ?_
        rintro e w' ⟨rfl, v2, hb2, hw2, hh2⟩
        have B2 := hide hb2
        have W2 := hide (HW.out.trans hw2 HH.out)
        have H2 := hide (HH.out.trans hh2 HW.out.size)
        clear hb2 hw2 hh2 HB HW HH
        go_wp2
        go_end0
        exact ⟨rfl, v2, by rw [markOf, if_pos hl, ← List.append_assoc]; exact B2.out, W2.out, H2.out⟩
      · go_wp2_with fail
        go_end0
        exact ⟨rfl, v', by rw [markOf, if_neg hl, List.append_nil]; exact HB.out, HW.out, HH.out⟩
end Go.Proofs.YtcidgfdiacehmaaDoor

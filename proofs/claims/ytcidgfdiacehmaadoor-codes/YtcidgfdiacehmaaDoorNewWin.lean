/- newWindow, and what is true of leading and trailing zeros. -/
import Derived.Test.YtcidgfdiacehmaaDoorPutWin
import Derived.Lib.MinMax
namespace Go.Proofs.YtcidgfdiacehmaaDoor
open Go.RowKit

theorem bitLenAux_lt (f x : Nat) (h : x < 2 ^ f) : x < 2 ^ Lib.bitLenAux f x := by
  induction f generalizing x with
  | zero => simpa [Lib.bitLenAux] using h
  | succ f ih =>
    unfold Lib.bitLenAux
    split
    · subst_vars; simp
    · have := ih (x / 2) (by rw [Nat.pow_succ] at h; omega)
      rw [Nat.add_comm, Nat.pow_succ]; omega
theorem tz_pow_le (x : Nat) (h0 : x ≠ 0) (h : x < 2 ^ 64) : 2 ^ tz x ≤ x := by
  obtain ⟨m, hm, _⟩ := Lib.ctzFrom_spec 64 x (by omega) h
  have e : tz x = Lib.ctzFrom 64 x := by unfold tz Lib.ctz; rw [if_neg h0]
  rw [e]
  conv => rhs; rw [hm]
  exact Nat.le_mul_of_pos_right _ (by omega)
theorem lz_tz (x : Nat) (h0 : x ≠ 0) (h : x < 2 ^ 64) : lz x + tz x ≤ 63 := by
  have h1 := tz_pow_le x h0 h
  have h2 : x < 2 ^ Lib.bitLen x := bitLenAux_lt 64 x h
  have h3 : tz x < Lib.bitLen x := (Nat.pow_lt_pow_iff_right (by decide)).1 (Nat.lt_of_le_of_lt h1 h2)
  have h4 : Lib.bitLen x ≤ 64 := bitLenAux_le 64 x
  unfold lz; omega

def newAhead (x : Nat) : Nat := min (lz x) 31
def newSize (x : Nat) : Nat := 64 - newAhead x - tz x
theorem new_bounds (x : Nat) (h0 : x ≠ 0) (h : x < 2 ^ 64) : newAhead x ≤ 31 ∧ newAhead x + newSize x + tz x = 64 ∧ 1 ≤ newSize x ∧ newSize x ≤ 64 := by
  have := lz_tz x h0 h
  unfold newSize newAhead; omega

set_option maxRecDepth 100000 in
set_option maxHeartbeats 400000 in
theorem newWindow_any (x : Nat) (w : World) (hx : x ≤ 18446744073709551615) (h0 : x ≠ 0) (ht : Tabs w) :
    Calls Tryd.prog 104 #[.int .u64 x] w fun e w' => e = .returned (.agg #[.int .i64 (newAhead x), .int .i64 (newSize x)]) ∧ Below w.heap.size w w' := by
  have nb := new_bounds x h0 (by omega)
  have hl : lz x ≤ 64 := by unfold lz; omega
  have HT := hide (ht.alloc (.cells #[.int .i64 0, .int .i64 0] 120))
  have em : (min (lz x : Int) 31) = (newAhead x : Int) := by unfold newAhead; omega
  have es : (64 : Int) - (newAhead x : Int) - (tz x : Int) = (newSize x : Int) := by omega
  have b1 := nb.1
  have b2 : tz x ≤ 64 := by omega
  have ES := hide es
  clear nb ht es h0
  go_enter Tryd.func104, Tryd.ntmps104
  go_wp2_with fail
  refine (lz_any x _ hx).mono ?_
  rintro e w' ⟨rfl, rfl⟩
  go_wp2_with fail
  refine (tz_any x _ hx HT.out).mono ?_
  rintro e w' ⟨rfl, rfl⟩
  go_wp2
  exact bodyPost_ret (v := .agg #[.int .i64 (newAhead x), .int .i64 (64 - (newAhead x : Int) - tz x)]) (by simp [results, Tryd.results104, go_sem]) rfl ⟨by rw [ES.out], (Below.refl _ _).alloc (Nat.le_refl _) _⟩
end Go.Proofs.YtcidgfdiacehmaaDoor

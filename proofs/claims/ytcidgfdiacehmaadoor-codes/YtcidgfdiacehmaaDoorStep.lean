/- The ways of a step: stepWay. -/
import Derived.Test.YtcidgfdiacehmaaDoorWin
namespace Go.Proofs.YtcidgfdiacehmaaDoor
open Go.RowKit

def stepWidth : Nat → Nat | 0 => 0 | 1 => 7 | 2 => 9 | 3 => 12 | _ => 64
def stepShift : Nat → Nat | 0 => 0 | 1 => 63 | 2 => 255 | 3 => 2047 | _ => 0
/-- e told in the way v fits its bits -/
def stepFits (e v : Nat) : Bool := decide ((e + stepShift v) % 18446744073709551616 < 2 ^ stepWidth v)
def stepWay (e : Nat) : Nat := if stepFits e 0 then 0 else if stepFits e 1 then 1 else if stepFits e 2 then 2 else if stepFits e 3 then 3 else 4

theorem way0 {e : Nat} (he : e ≤ 18446744073709551615) (h : (e : Int) < 1) : stepWay e = 0 := by
  obtain rfl : e = 0 := by omega
  decide
theorem fits_iff {e v s W : Nat} (hs : stepShift v = s) (hw : 2 ^ stepWidth v = W) : stepFits e v = decide (IntKind.u64.wrap ((e : Int) + s) < W) := by
  unfold stepFits
  rw [hs, hw, IntKind.wrap_u64, decide_eq_decide]
  omega
theorem no0 {e : Nat} (h : 1 ≤ (e : Int)) (he : e ≤ 18446744073709551615) : stepFits e 0 = false := by
  rw [fits_iff (s := 0) (W := 1) rfl rfl, IntKind.wrap_u64]; simp; omega
theorem yes_of {e v s W : Nat} (hs : stepShift v = s) (hw : 2 ^ stepWidth v = W) (h : IntKind.u64.wrap ((e : Int) + s) < W) : stepFits e v = true := by
  rw [fits_iff hs hw]; exact decide_eq_true h
theorem no_of {e v s W : Nat} (hs : stepShift v = s) (hw : 2 ^ stepWidth v = W) (h : W ≤ IntKind.u64.wrap ((e : Int) + s)) : stepFits e v = false := by
  rw [fits_iff hs hw]; exact decide_eq_false (by omega)
theorem way1 {e : Nat} (he : e ≤ 18446744073709551615) (h0 : 1 ≤ (e : Int)) (h : IntKind.u64.wrap ((e : Int) + 63) < 128) : stepWay e = 1 := by
  simp [stepWay, no0 h0 he, yes_of (v := 1) (s := 63) (W := 128) rfl rfl h]
theorem way2 {e : Nat} (he : e ≤ 18446744073709551615) (h0 : 1 ≤ (e : Int)) (h1 : 128 ≤ IntKind.u64.wrap ((e : Int) + 63)) (h : IntKind.u64.wrap ((e : Int) + 255) < 512) : stepWay e = 2 := by
  simp [stepWay, no0 h0 he, no_of (v := 1) (s := 63) (W := 128) rfl rfl h1, yes_of (v := 2) (s := 255) (W := 512) rfl rfl h]
theorem way3 {e : Nat} (he : e ≤ 18446744073709551615) (h0 : 1 ≤ (e : Int)) (h1 : 128 ≤ IntKind.u64.wrap ((e : Int) + 63)) (h2 : 512 ≤ IntKind.u64.wrap ((e : Int) + 255)) (h : IntKind.u64.wrap ((e : Int) + 2047) < 4096) : stepWay e = 3 := by
  simp [stepWay, no0 h0 he, no_of (v := 1) (s := 63) (W := 128) rfl rfl h1, no_of (v := 2) (s := 255) (W := 512) rfl rfl h2, yes_of (v := 3) (s := 2047) (W := 4096) rfl rfl h]
theorem way4 {e : Nat} (he : e ≤ 18446744073709551615) (h0 : 1 ≤ (e : Int)) (h1 : 128 ≤ IntKind.u64.wrap ((e : Int) + 63)) (h2 : 512 ≤ IntKind.u64.wrap ((e : Int) + 255)) (h3 : 4096 ≤ IntKind.u64.wrap ((e : Int) + 2047)) : stepWay e = 4 := by
  simp [stepWay, no0 h0 he, no_of (v := 1) (s := 63) (W := 128) rfl rfl h1, no_of (v := 2) (s := 255) (W := 512) rfl rfl h2, no_of (v := 3) (s := 2047) (W := 4096) rfl rfl h3]

set_option maxRecDepth 100000 in
set_option maxHeartbeats 400000 in
theorem stepWay_any (e : Nat) (w : World) (he : e ≤ 18446744073709551615) (ht : Tabs w) :
    Calls Tryd.prog 100 #[.int .u64 e] w fun r w' => r = .returned (.int .i64 (stepWay e)) ∧ ∃ q, w' = w.drewN q := by
  obtain ⟨s0, s1, s2, s3, s4, s5, s6, s7, s8, s9, _⟩ := ht
  go_enter Tryd.func100, Tryd.ntmps100
  go_wp2
  refine wp_loop_rounds 5 ?_
  rw [rounds_succ]
  go_wp2
  go_quiet (fail)
  go_wp2
  · go_ret
    exact ⟨ret_int (by rw [way0 he (by assumption)]; rfl), _, rfl⟩
  have g0 : 1 ≤ (e : Int) := by assumption
  rw [rounds_succ]
  go_wp2
  go_quiet (fail)
  go_wp2
  · go_ret
    exact ⟨ret_int (by rw [way1 he g0 (by assumption)]; rfl), _, World.drewN_drewN _ _ _⟩
  have g1 : 128 ≤ IntKind.u64.wrap ((e : Int) + 63) := by assumption
  rw [rounds_succ]
  go_wp2
  go_quiet (fail)
  go_wp2
  · go_ret
    exact ⟨ret_int (by rw [way2 he g0 g1 (by assumption)]; rfl), _, World.drewN_drewN _ _ _⟩
  have g2 : 512 ≤ IntKind.u64.wrap ((e : Int) + 255) := by assumption
  rw [rounds_succ]
  go_wp2
  go_quiet (fail)
  go_wp2
  · go_ret
    exact ⟨ret_int (by rw [way3 he g0 g1 g2 (by assumption)]; rfl), _, World.drewN_drewN _ _ _⟩
  have g3 : 4096 ≤ IntKind.u64.wrap ((e : Int) + 2047) := by assumption
  rw [rounds_succ]
  go_wp2
  go_ret
  exact ⟨ret_int (by rw [way4 he g0 g1 g2 g3]; rfl), _, rfl⟩
end Go.Proofs.YtcidgfdiacehmaaDoor

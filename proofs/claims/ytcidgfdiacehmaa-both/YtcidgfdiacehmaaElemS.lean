/- A sample as it is compared: by its time. -/
import Derived.Test.YtcidgfdiacehmaaMergePure
namespace Go.Proofs.Ytcidgfdiacehmaa
open Go.RowKit Go.Lib

def ElS (_ : World) (x : Int × Nat) (c0 c1 : Value) : Prop := c0 = .int .i64 x.1 ∧ c1 = .int .u64 x.2
def SmS (_ : Int × Nat) : Prop := True
theorem SamplesAt.head {w : World} {B : Nat} {v : Value} {x : Int × Nat} {r : List (Int × Nat)} (h : SamplesAt w B v (x :: r)) : ∃ b o k a0 a1, v = .slice (some ⟨b, o, none⟩) (r.length + 1) k ∧ b < B ∧ w.cell? ⟨b, o, none⟩ = some a0 ∧ w.cell? ⟨b, o + 1, none⟩ = some a1 ∧ ElS w x a0 a1 := by
  obtain ⟨a, cap, rfl, _, _, h2⟩ := h
  rcases h2 with h2 | ⟨b, o, rfl, hb, hc⟩
  · cases h2
  · have := hc 0 x rfl
    simp only [Nat.zero_mul, Nat.add_zero] at this
    exact ⟨b, o, cap, _, _, rfl, hb, this.1, this.2, rfl, rfl⟩

/-- cmp.Compare of two numbers. -/
def cmpI (x y : Int) : Int := if x < y then -1 else if y < x then 1 else 0
set_option maxHeartbeats 400000 in
theorem isNaN_any (x : Int) (w : World) : Calls Try.prog 72 #[.int .i64 x] w fun e w' => e = .returned (.bool false) ∧ w' = w := by
  go_enter Try.func72, Try.ntmps72
  go_wp2
  go_ret
  exact ⟨by simp, rfl⟩
set_option maxRecDepth 100000 in
set_option maxHeartbeats 400000 in
theorem compareInt_any (x y : Int) (w : World) : Calls Try.prog 67 #[.int .i64 x, .int .i64 y] w fun e w' => e = .returned (.int .i64 (cmpI x y)) ∧ w' = w := by
  have C := hide isNaN_any
  by_cases h1 : x < y
  · have HE : Hid (cmpI x y = -1) := if_pos h1
    go_enter Try.func67, Try.ntmps67
    go_wp2_with (go_at_call 72; refine (C.out _ _).mono ?_; rintro e w' ⟨rfl, rfl⟩)
    go_ret
    exact ⟨ret_int HE.out.symm, rfl⟩
  · by_cases h2 : y < x
    · have HE : Hid (cmpI x y = 1) := by show (if x < y then (-1 : Int) else if y < x then 1 else 0) = 1; rw [if_neg h1, if_pos h2]
      go_enter Try.func67, Try.ntmps67
      go_wp2_with (go_at_call 72; refine (C.out _ _).mono ?_; rintro e w' ⟨rfl, rfl⟩)
      go_ret
      exact ⟨ret_int HE.out.symm, rfl⟩
    · have HE : Hid (cmpI x y = 0) := by show (if x < y then (-1 : Int) else if y < x then 1 else 0) = 0; rw [if_neg h1, if_neg h2]
      go_enter Try.func67, Try.ntmps67
      go_wp2_with (go_at_call 72; refine (C.out _ _).mono ?_; rintro e w' ⟨rfl, rfl⟩)
      go_ret
      exact ⟨ret_int HE.out.symm, rfl⟩
set_option maxRecDepth 100000 in
set_option maxHeartbeats 400000 in
theorem cmpS_any (x y : Int × Nat) (a0 a1 d0 d1 : Value) (w0 w : World) (h1 : ElS w0 x a0 a1) (h2 : ElS w0 y d0 d1) (_ : ∀ k, k < w0.heap.size → w.heap[k]? = w0.heap[k]?) (_ : w0.heap.size ≤ w.heap.size) (_ : SmS x) (_ : SmS y) :
    Calls Try.prog 57 #[.agg #[a0, a1], .agg #[d0, d1]] w fun e w' => e = .returned (.int .i64 (cmpT x y)) ∧ Below w.heap.size w w' := by
  obtain ⟨rfl, rfl⟩ := h1
  obtain ⟨rfl, rfl⟩ := h2
  have C := hide compareInt_any
  go_enter Try.func57, Try.ntmps57
  go_wp2_with (go_at_call 67; refine (C.out _ _ _).mono ?_; rintro e w' ⟨rfl, rfl⟩)
  go_ret
  exact ⟨rfl, ((Below.refl _ _).alloc (Nat.le_refl _) _).alloc (by simp) _⟩
end Go.Proofs.Ytcidgfdiacehmaa

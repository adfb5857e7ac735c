/- The tables, the library's bit functions, and the window's methods. -/
import Derived.Test.YtcidgfdiacehmaaDoorShelf
import Derived.Test.YtcidgfdiacehmaaDoorPut
import Derived.Test.YtcidgfdiacehmaaDoorSum
import Derived.BigQuiet
import Derived.Deep.QuietTactic
namespace Go.Proofs.YtcidgfdiacehmaaDoor
open Go.RowKit

/-- What the package variables hold: the ways of a step, and the library's table. -/
structure Tabs (w : World) : Prop where
  s0 : w.cell? ⟨0, 0, none⟩ = some (.int .i64 0)
  s1 : w.cell? ⟨0, 1, none⟩ = some (.int .u64 0)
  s2 : w.cell? ⟨0, 2, none⟩ = some (.int .i64 7)
  s3 : w.cell? ⟨0, 3, none⟩ = some (.int .u64 63)
  s4 : w.cell? ⟨0, 4, none⟩ = some (.int .i64 9)
  s5 : w.cell? ⟨0, 5, none⟩ = some (.int .u64 255)
  s6 : w.cell? ⟨0, 6, none⟩ = some (.int .i64 12)
  s7 : w.cell? ⟨0, 7, none⟩ = some (.int .u64 2047)
  s8 : w.cell? ⟨0, 8, none⟩ = some (.int .i64 64)
  s9 : w.cell? ⟨0, 9, none⟩ = some (.int .u64 0)
  tz : TabAt 2 Lib.deBruijn64tab w

theorem Tabs.lt {w : World} (h : Tabs w) : 2 < w.heap.size := by
  have := World.block_lt_of_cell? w _ (h.tz 0 (by decide)); exact this
theorem Tabs.kept {w w' : World} (h : Tabs w) (h0 : w'.heap[0]? = w.heap[0]?) (h2 : w'.heap[2]? = w.heap[2]?) : Tabs w' := by
  have e : ∀ o, w'.cell? ⟨0, o, none⟩ = w.cell? ⟨0, o, none⟩ := fun o => World.cell?_of_block (a := ⟨0, o, none⟩) h0
  exact ⟨(e 0).trans h.s0, (e 1).trans h.s1, (e 2).trans h.s2, (e 3).trans h.s3, (e 4).trans h.s4, (e 5).trans h.s5, (e 6).trans h.s6, (e 7).trans h.s7, (e 8).trans h.s8, (e 9).trans h.s9,
    fun j hj => (World.cell?_of_block (a := ⟨2, j, none⟩) h2).trans (h.tz j hj)⟩
theorem Tabs.below {w w' : World} {B : Nat} (h : Tabs w) (hb : Below B w w') (hB : 3 ≤ B) : Tabs w' := h.kept (hb.block _ (by omega)) (hb.block _ (by omega))
theorem Tabs.alloc {w : World} (h : Tabs w) (o : Obj) : Tabs (w.alloc o) := h.below (B := w.heap.size) ((Below.refl _ _).alloc (Nat.le_refl _) o) (by have := h.lt; omega)
theorem Tabs.drew {w : World} (h : Tabs w) : Tabs w.drew := h.kept rfl rfl
theorem Tabs.wrote {w w' : World} {pb po : Nat} {v : Value} {xs : List UInt8} (h : Tabs w) (hw : Wrote w w' pb po v.ownBlock) (hb : Bytes (pb + 1) w v xs) (hp : 3 ≤ pb) : Tabs w' := by
  have hl := h.lt
  exact h.kept (hw.block _ (by omega) (by omega) (fun e => own_ne hb (by omega) e.symm)) (hw.block _ (by omega) (by omega) (fun e => own_ne hb (by omega) e.symm))

/-- How many zero bits are ahead, and behind, in 64. -/
def lz (x : Nat) : Nat := 64 - Lib.bitLen x
def tz (x : Nat) : Nat := Lib.ctz 64 x
theorem bitLenAux_le (f x : Nat) : Lib.bitLenAux f x ≤ f := by
  induction f generalizing x with
  | zero => simp [Lib.bitLenAux]
  | succ f ih => unfold Lib.bitLenAux; split <;> have := ih (x / 2) <;> omega
theorem lz_any (x : Nat) (w : World) (hx : x ≤ 18446744073709551615) :
    Calls Tryd.prog 116 #[.int .u64 x] w fun e w' => e = .returned (.int .i64 (lz x)) ∧ w' = w := by
  refine (Tryd.bits_LeadingZeros64 x w (by omega) (by omega)).mono ?_
  rintro e w' ⟨rfl, rfl⟩
  have : Lib.bitLen x ≤ 64 := bitLenAux_le 64 x
  exact ⟨ret_int (by simp [lz]; omega), rfl⟩
theorem tz_any (x : Nat) (w : World) (hx : x ≤ 18446744073709551615) (ht : Tabs w) :
    Calls Tryd.prog 117 #[.int .u64 x] w fun e w' => e = .returned (.int .i64 (tz x)) ∧ w' = w :=
  Any7.bits_TrailingZeros64 Tryd.laysTz x (by omega) w (fun _ => ht.tz)

set_option maxHeartbeats 400000 in
theorem behind_any (a s : Nat) (w : World) (ha : a ≤ 64) (hs : s ≤ 64) :
    Calls Tryd.prog 105 #[.agg #[.int .i64 a, .int .i64 s]] w fun e w' => e = .returned (.int .i64 (64 - (a : Int) - s)) ∧ w' = w.alloc (.cells #[.int .i64 a, .int .i64 s] 120) := by
  go_enter Tryd.func105, Tryd.ntmps105
  go_wp2
  go_ret
  exact ⟨rfl, rfl⟩

/-- Does a window of s bits behind a hold all bits of x that are 1? -/
def holdsB (a s x : Nat) : Bool := decide (0 < s) && (decide (a ≤ lz x) && decide (64 - (a : Int) - s ≤ tz x))

set_option maxRecDepth 100000 in
set_option maxHeartbeats 400000 in
theorem holds_yes (a s x : Nat) (w : World) (ha : a ≤ 64) (hs : s ≤ 64) (hx : x ≤ 18446744073709551615) (ht : Tabs w) (h1 : 0 < s) (h2 : a ≤ lz x) :
    Calls Tryd.prog 115 #[.agg #[.int .i64 a, .int .i64 s], .int .u64 x] w fun e w' => e = .returned (.bool (decide (64 - (a : Int) - s ≤ tz x))) ∧ Below w.heap.size w w' := by
  have g1 : (0 : Int) < s := by omega
  have g2 : (a : Int) ≤ (lz x : Int) := by omega
  have ht2 := fun o => ht.alloc o
  have HT := hide ht2
  clear ht ht2
  go_enter Tryd.func115, Tryd.ntmps115
  go_wp2
  go_region_with (first | (go_at_call 116; refine (lz_any _ _ hx).mono ?_; rintro e w' ⟨rfl, rfl⟩) | (go_at_call 117; refine (tz_any _ _ hx (by exact (HT.out _).drew)).mono ?_; rintro e w' ⟨rfl, rfl⟩) | (go_at_call 105; refine (behind_any _ _ _ ha hs).mono ?_; rintro e w' ⟨rfl, rfl⟩))
  all_goals (go_wp2; go_ret; exact ⟨rfl, (((Below.refl _ _).alloc (Nat.le_refl _) _).alloc (by simp) _).drew⟩)

set_option maxRecDepth 100000 in
set_option maxHeartbeats 400000 in
theorem holds_far (a s x : Nat) (w : World) (hx : x ≤ 18446744073709551615) (h1 : 0 < s) (h2 : ¬ a ≤ lz x) :
    Calls Tryd.prog 115 #[.agg #[.int .i64 a, .int .i64 s], .int .u64 x] w fun e w' => e = .returned (.bool false) ∧ Below w.heap.size w w' := by
  have g1 : (0 : Int) < s := by omega
  have g2 : decide ((a : Int) ≤ (lz x : Int)) = false := by simp; omega
  go_enter Tryd.func115, Tryd.ntmps115
  go_wp2
  go_quiet ((go_at_call 116; exact Calls.quiet_of_same (lz_any _ _ hx)))
  go_wp2
  go_ret
  exact ⟨rfl, below_drewN ((Below.refl _ _).alloc (Nat.le_refl _) _) _⟩

set_option maxRecDepth 100000 in
set_option maxHeartbeats 400000 in
theorem holds_none (a x : Nat) (w : World) :
    Calls Tryd.prog 115 #[.agg #[.int .i64 a, .int .i64 0], .int .u64 x] w fun e w' => e = .returned (.bool false) ∧ Below w.heap.size w w' := by
  go_enter Tryd.func115, Tryd.ntmps115
  go_wp2
  go_quiet (fail)
  go_wp2
  go_ret
  exact ⟨rfl, below_drewN ((Below.refl _ _).alloc (Nat.le_refl _) _) _⟩

theorem holds_any (a s x : Nat) (w : World) (ha : a ≤ 64) (hs : s ≤ 64) (hx : x ≤ 18446744073709551615) (ht : Tabs w) :
    Calls Tryd.prog 115 #[.agg #[.int .i64 a, .int .i64 s], .int .u64 x] w fun e w' => e = .returned (.bool (holdsB a s x)) ∧ Below w.heap.size w w' := by
  by_cases h1 : 0 < s
  · by_cases h2 : a ≤ lz x
    · refine (holds_yes a s x w ha hs hx ht h1 h2).mono ?_
      rintro e w' ⟨rfl, hb⟩
      exact ⟨by simp [holdsB, h1, h2], hb⟩
    · refine (holds_far a s x w hx h1 h2).mono ?_
      rintro e w' ⟨rfl, hb⟩
      exact ⟨by simp [holdsB, h2], hb⟩
  · obtain rfl : s = 0 := by omega
    refine (holds_none a x w).mono ?_
    rintro e w' ⟨rfl, hb⟩
    exact ⟨by simp [holdsB], hb⟩

/-- In which way x is told: as nothing, in the window, in a new one. -/
def wayOf (a s x : Nat) : Nat := if x = 0 then 0 else if holdsB a s x then 1 else 2

set_option maxRecDepth 100000 in
set_option maxHeartbeats 400000 in
theorem wayOf_any (a s x : Nat) (w : World) (ha : a ≤ 64) (hs : s ≤ 64) (hx : x ≤ 18446744073709551615) (ht : Tabs w) :
    Calls Tryd.prog 102 #[.agg #[.int .i64 a, .int .i64 s], .int .u64 x] w fun e w' => e = .returned (.int .i64 (wayOf a s x)) ∧ Below w.heap.size w w' := by
  by_cases h0 : x = 0
  · subst h0
    go_enter Tryd.func102, Tryd.ntmps102
    go_wp2
    go_ret
    exact ⟨rfl, (Below.refl _ _).alloc (Nat.le_refl _) _⟩
  · have hx0 : ((x : Int) == 0) = false := by simp; omega
    have hw : wayOf a s x = if holdsB a s x = true then 1 else 2 := by simp [wayOf, h0]
    have HT := hide ht
    have HW := hide hw
    clear ht hw
    go_enter Tryd.func102, Tryd.ntmps102
    go_wp2_with fail
    refine (holds_any a s x _ ha hs hx (HT.out.alloc _)).mono ?_
    rintro e w' ⟨rfl, hb⟩
    have HB := hide (((Below.refl w.heap.size w).alloc (Nat.le_refl _) _).trans (hb.mono (by simp)))
    clear hb
    cases hh : holdsB a s x
    all_goals
      rw [hh] at HW
      clear hh
      go_wp2
      go_ret
      exact ⟨by rw [HW.out]; rfl, HB.out⟩
end Go.Proofs.YtcidgfdiacehmaaDoor

/- areSamples. -/
import Derived.Test.YtcidgfdiacehmaaCmp
namespace Go.Proofs.Ytcidgfdiacehmaa
open Go.RowKit Go.Lib

/-- The first k samples rise by their times. -/
def RisesTo (l : List (Int × Nat)) (k : Nat) : Prop := ∀ i x y, i + 1 < k → l[i]? = some x → l[i + 1]? = some y → x.1 < y.1
def SamplesOk (l : List (Int × Nat)) : Prop := l ≠ [] ∧ RisesTo l l.length
theorem RisesTo.succ {l : List (Int × Nat)} {k : Nat} {x y : Int × Nat} (h : RisesTo l (k + 1)) (hx : l[k]? = some x) (hy : l[k + 1]? = some y) (hlt : x.1 < y.1) : RisesTo l (k + 2) := by
  intro i u v hi hu hv
  by_cases he : i = k
  · subst he
    rw [hx] at hu; rw [hy] at hv
    cases hu; cases hv; exact hlt
  · exact h i u v (by omega) hu hv
theorem SamplesAt.get {w : World} {B : Nat} {a : Option Addr} {n c : Nat} {l : List (Int × Nat)} (h : SamplesAt w B (.slice a n c) l) {k : Nat} {x : Int × Nat} (hx : l[k]? = some x) :
    ∃ b o, a = some ⟨b, o, none⟩ ∧ b < B ∧ w.cell? ⟨b, o + k * 2, none⟩ = some (.int .i64 x.1) ∧ w.cell? ⟨b, o + k * 2 + 1, none⟩ = some (.int .u64 x.2) := by
  obtain ⟨a', c', hv, _, _, h2⟩ := h
  cases hv
  rcases h2 with h2 | ⟨b, o, ha, hb, hc⟩
  · rw [h2] at hx; cases hx
  · exact ⟨b, o, ha, hb, (hc k x hx).1, (hc k x hx).2⟩

theorem ok_end {l : List (Int × Nat)} (h : RisesTo l l.length) : decide (0 < l.length) = true ↔ SamplesOk l := by
  rw [decide_eq_true_iff]
  constructor
  · intro hl
    exact ⟨by intro e; rw [e] at hl; simp at hl, h⟩
  · rintro ⟨hl, _⟩
    exact List.length_pos_iff.2 hl

set_option maxRecDepth 100000 in
set_option maxHeartbeats 400000 in
theorem areSamples_any (B : Nat) (v : Value) (l : List (Int × Nat)) (w : World) (hS : SamplesAt w B v l) (hB : B ≤ w.heap.size) (hll : l.length ≤ 10000000000000) :
    Calls Try.prog 39 #[v] w fun e w' => (∃ r, e = .returned (.bool r) ∧ (r = true ↔ SamplesOk l)) ∧ Below w.heap.size w w' := by
  obtain ⟨a, c, rfl, _⟩ := id hS
  have HS := hide hS
  clear hS
  go_enter Try.func39, Try.ntmps39
  go_wp2
  go_loopw [3, 4, 7] (fun _ _ i wr => ∃ k : Nat, k ≤ l.length ∧ i = .int .i64 k ∧ Below w.heap.size w wr ∧ Hid (RisesTo l k)) (fun _ _ i _ => l.length - (intOf i).toNat)
  case atStart => exact ⟨0, Nat.zero_le _, rfl, Below.refl _ _, fun i x y h => by omega⟩
  case round =>
    obtain ⟨k, hk, rfl, hbl, HR⟩ := hrel
    have hsz := hbl.size
    have HBl := hide hbl
    clear hbl
    by_cases hlt : k < l.length
    · obtain ⟨y, hy⟩ : ∃ y, l[k]? = some y := ⟨_, List.getElem?_eq_getElem hlt⟩
      have KS := HS.out.below HBl.out hB
      obtain ⟨b, o, rfl, hb, c1, c2⟩ := KS.get hy
      have hbw : b < wr.heap.size := by omega
      have HY := hide hy
      clear hy
      cases k with
      | zero =>
        simp only [Nat.zero_mul, Nat.add_zero] at c1 c2
        go_wp2
        go_quiet (fail)
        go_wp2
        go_roundw
        case rel => exact ⟨1, by omega, by go_num, below_drewN (HBl.out.alloc hsz _) _, fun i x y h => by omega⟩
        case measure => simp [intOf]; omega
      | succ j =>
        obtain ⟨x, hx⟩ : ∃ x, l[j]? = some x := ⟨_, List.getElem?_eq_getElem (by omega)⟩
        obtain ⟨b2, o2, h2, _, d1, _⟩ := KS.get hx
        cases h2
        have HX := hide hx
        clear hx
        by_cases hge : y.1 ≤ x.1
        · go_wp2
          go_quiet (fail)
          go_wp2
          go_ret
          refine ⟨⟨false, rfl, ?_⟩, below_drewN (HBl.out.alloc hsz _) _⟩
          refine ⟨fun h => absurd h (by decide), fun h => ?_⟩
          have := h.2 j x y (by omega) HX.out HY.out
          omega
        · have hge2 : decide (y.1 ≤ x.1) = false := decide_eq_false hge
          go_wp2
          go_quiet (fail)
          go_wp2
          go_roundw
          case rel => exact ⟨j + 2, by omega, by go_num, below_drewN (HBl.out.alloc hsz _) _, HR.out.succ HX.out HY.out (by omega)⟩
          case measure => simp [intOf]; omega
    · have hke : k = l.length := by omega
      go_wp2
      go_ret
      refine ⟨⟨_, rfl, ?_⟩, HBl.out⟩
      have hR : RisesTo l l.length := by rw [← hke]; exact HR.out
      exact ok_end hR
end Go.Proofs.Ytcidgfdiacehmaa

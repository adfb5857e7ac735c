/- areLabels. -/
import Derived.Test.YtcidgfdiacehmaaAreSam
namespace Go.Proofs.Ytcidgfdiacehmaa
open Go.RowKit Go.Lib

/-- The answer is a bool that says p. -/
def BoolOf (e : Ending) (p : Prop) : Prop := ∃ r, e = .returned (.bool r) ∧ (r = true ↔ p)
theorem BoolOf.yes {p : Prop} (h : p) : BoolOf (.returned (.bool true)) p := ⟨true, rfl, fun _ => h, fun _ => rfl⟩
theorem BoolOf.no {p : Prop} (h : ¬ p) : BoolOf (.returned (.bool false)) p := ⟨false, rfl, fun e => absurd e (by decide), fun e => absurd e h⟩
def KeyOk (x : Lab) : Prop := x.1.toList.isEmpty = false ∧ x.1.size ≤ 16 ∧ x.2.size ≤ 16
/-- The first k labels are in order. -/
def LabsTo (l : List Lab) (k : Nat) : Prop := (∀ i x, i < k → l[i]? = some x → KeyOk x) ∧ ∀ i x y, i + 1 < k → l[i]? = some x → l[i + 1]? = some y → Op.bytesLess x.1.toList y.1.toList = true
def LabelsOk (l : List Lab) : Prop := LabsTo l l.length

theorem LabsTo.one {l : List Lab} {y : Lab} (_ : LabsTo l 0) (hk : KeyOk y) (hy : l[0]? = some y) : LabsTo l 1 := by
  refine ⟨fun i x hi hx => ?_, fun i x y h => by omega⟩
  obtain rfl : i = 0 := by omega
  rw [hy] at hx; cases hx; exact hk
theorem LabsTo.succ {l : List Lab} {k : Nat} {x y : Lab} (h : LabsTo l (k + 1)) (hx : l[k]? = some x) (hy : l[k + 1]? = some y) (hk : KeyOk y) (hlt : Op.bytesLess x.1.toList y.1.toList = true) : LabsTo l (k + 2) := by
  refine ⟨fun i u hi hu => ?_, fun i u v hi hu hv => ?_⟩
  · by_cases he : i = k + 1
    · subst he; rw [hy] at hu; cases hu; exact hk
    · exact h.1 i u (by omega) hu
  · by_cases he : i = k
    · subst he
      rw [hx] at hu; rw [hy] at hv
      cases hu; cases hv; exact hlt
    · exact h.2 i u v (by omega) hu hv

set_option maxRecDepth 100000 in
set_option maxHeartbeats 400000 in
theorem areLabels_any (B : Nat) (v : Value) (l : List Lab) (w : World) (hS : LabelsAt w B v l) (hB : B ≤ w.heap.size) (hll : l.length ≤ 10000000000000) :
    Calls Try.prog 38 #[v] w fun e w' => BoolOf e (LabelsOk l) ∧ Below w.heap.size w w' := by
  obtain ⟨a, c, rfl, _⟩ := id hS
  have HS := hide hS
  clear hS
  go_enter Try.func38, Try.ntmps38
  go_wp2
  go_loopw [3, 4, 7] (fun _ _ i wr => ∃ k : Nat, k ≤ l.length ∧ i = .int .i64 k ∧ Below w.heap.size w wr ∧ Hid (LabsTo l k)) (fun _ _ i _ => l.length - (intOf i).toNat)
  case atStart => exact ⟨0, Nat.zero_le _, rfl, Below.refl _ _, ⟨fun i x h => by omega, fun i x y h => by omega⟩⟩
  case round =>
    obtain ⟨k, hk, rfl, hbl, HR⟩ := hrel
    have hsz := hbl.size
    have HBl := hide hbl
    clear hbl
    by_cases hlt : k < l.length
    · obtain ⟨⟨y1, y2⟩, hy⟩ : ∃ y, l[k]? = some y := ⟨_, List.getElem?_eq_getElem hlt⟩
      have KS := HS.out.below HBl.out hB
      obtain ⟨b, o, rfl, hb, c1, c2⟩ := KS.get hy
      have hbw : b < wr.heap.size := by omega
      have HY := hide hy
      clear hy
      have HBA := hide (HBl.out.alloc hsz (.cells #[.string y1, .string y2] 60))
      cases he : y1.toList.isEmpty with
      | true =>
        have hno : ¬ LabelsOk l := fun h => by have := (h.1 k _ hlt HY.out).1; simp [he] at this
        have HNo := hide hno
        clear hno HR HY
        go_wp2
        go_ret
        exact ⟨BoolOf.no HNo.out, HBA.out⟩
      | false =>
        by_cases h1 : 16 < y1.size
        · have hno : ¬ LabelsOk l := fun h => by have h2 : y1.size ≤ 16 := (h.1 k _ hlt HY.out).2.1; omega
          have HNo := hide hno
          clear hno HR HY
          go_wp2
          go_ret
          exact ⟨BoolOf.no HNo.out, HBA.out⟩
        · by_cases h2 : 16 < y2.size
          · have hno : ¬ LabelsOk l := fun h => by have h2 : y2.size ≤ 16 := (h.1 k _ hlt HY.out).2.2; omega
            have HNo := hide hno
            clear hno HR HY
            go_wp2
            go_ret
            exact ⟨BoolOf.no HNo.out, HBA.out⟩
          · have hok : KeyOk (y1, y2) := ⟨he, by show y1.size ≤ 16; omega, by show y2.size ≤ 16; omega⟩
            have HOk := hide hok
            clear hok
            cases k with
            | zero =>
              simp only [Nat.zero_mul, Nat.add_zero] at c1 c2
              go_wp2
              go_quiet (fail)
              go_wp2
              go_roundw
              case rel => exact ⟨1, by omega, by go_num, below_drewN HBA.out _, HR.out.one HOk.out HY.out⟩
              case measure => simp [intOf]; omega
            | succ j =>
              obtain ⟨⟨x1, x2⟩, hx⟩ : ∃ x, l[j]? = some x := ⟨_, List.getElem?_eq_getElem (by omega)⟩
              obtain ⟨b2, o2, hh2, _, d1, _⟩ := KS.get hx
              cases hh2
              have HX := hide hx
              clear hx
              cases hless : Op.bytesLess x1.toList y1.toList with
              | false =>
                have hno : ¬ LabelsOk l := fun h => by have := h.2 j _ _ (by omega) HX.out HY.out; simp [hless] at this
                have HNo := hide hno
                clear hno HR
                go_wp2
                go_quiet (fail)
                go_wp2
                go_ret
                exact ⟨BoolOf.no HNo.out, below_drewN HBA.out _⟩
              | true =>
                go_wp2
                go_quiet (fail)
                go_wp2
                go_roundw
                case rel => exact ⟨j + 2, by omega, by go_num, below_drewN HBA.out _, HR.out.succ HX.out HY.out HOk.out hless⟩
                case measure => simp [intOf]; omega
    · have hke : k = l.length := by omega
      have HY : Hid (LabelsOk l) := by show LabsTo l l.length; rw [← hke]; exact HR.out
      clear hke
      go_wp2
      go_ret
      exact ⟨BoolOf.yes HY.out, HBl.out⟩
end Go.Proofs.Ytcidgfdiacehmaa

/- The order of texts. -/
import Derived.Test.YtcidgfdiacehmaaBase
namespace Go.Proofs.Ytcidgfdiacehmaa
open Go.RowKit Go.Lib

theorem less_eq : ∀ (x y : List UInt8), Op.bytesLess x y = decide (x < y)
  | [], [] => by simp [Op.bytesLess]
  | _ :: _, [] => by simp [Op.bytesLess]
  | [], _ :: _ => by simp [Op.bytesLess]
  | a :: x, b :: y => by
    rw [Op.bytesLess, less_eq x y]
    simp only [List.cons_lt_cons_iff]
    by_cases h1 : a < b <;> by_cases h2 : a = b <;> by_cases h3 : x < y <;> simp [h1, h2, h3]
theorem lt_of_le_ne {x y : List UInt8} (h : x ≤ y) (hne : x ≠ y) : x < y := by
  by_cases hlt : x < y
  · exact hlt
  · exact absurd (List.le_antisymm h (List.not_lt.1 hlt)) hne
def TLt (a b : ByteArray) : Prop := a.data.toList < b.data.toList
theorem tless (x s : ByteArray) : Op.bytesLess x.toList s.toList = true ↔ TLt x s := by
  rw [ByteArray.toList_eq, ByteArray.toList_eq, less_eq]; simp [TLt]
theorem tirr (x : ByteArray) : ¬ TLt x x := fun h => List.lt_irrefl _ h
theorem ttrans {x y z : ByteArray} (h : TLt x y) (g : TLt y z) : TLt x z := List.lt_trans h g
theorem ttotal {x y : ByteArray} (h : ¬ TLt x y) (hn : x ≠ y) : TLt y x := by
  refine lt_of_le_ne (List.not_lt.1 h) ?_
  intro e
  exact hn (ByteArray.ext (Array.ext' e.symm))
end Go.Proofs.Ytcidgfdiacehmaa

/- A list of samples without its first. -/
import Derived.Test.YtcidgfdiacehmaaElemS
namespace Go.Proofs.Ytcidgfdiacehmaa
open Go.RowKit Go.Lib
theorem SamplesAt.tail {w : World} {B b o k n : Nat} {x : Int × Nat} {r : List (Int × Nat)} (h : SamplesAt w B (.slice (some ⟨b, o, none⟩) n k) (x :: r)) : n = r.length + 1 ∧ r.length ≤ k - 1 ∧ SamplesAt w B (.slice (some ⟨b, o + 2, none⟩) r.length (k - 1)) r := by
  obtain ⟨a, cap, e, hc, hr, h2⟩ := h
  cases e
  have hc' : r.length + 1 ≤ k := hc
  refine ⟨rfl, by omega, _, _, rfl, by omega, fun y hy => hr y (List.mem_cons_of_mem _ hy), ?_⟩
  rcases h2 with h2 | ⟨b', o', e, hb, hcell⟩
  · cases h2
  · cases e
    refine .inr ⟨b, o + 2, rfl, hb, fun i y hy => ?_⟩
    have := hcell (i + 1) y (by rw [List.getElem?_cons_succ]; exact hy)
    rw [show o + (i + 1) * 2 = o + 2 + i * 2 by omega] at this
    exact this

theorem SamplesAt.none (w : World) (B : Nat) (a : Option Addr) (q : Nat) : SamplesAt w B (.slice a 0 q) [] := ⟨a, q, rfl, Nat.zero_le _, fun x h => (by cases h), .inl rfl⟩
end Go.Proofs.Ytcidgfdiacehmaa

/- 'choirlaw.Reads', for any list of texts of bulk at most 1048576: Decode answers the document's batch or error, one behind the other; lists that came out are their owner's own. The second form's statement and its card: its only condition is the row's own bound on the argument's bulk. -/
import Derived.Test.YtamcclcbmenjdaaGreatDoorReadsuptoG21
/- Rows of the call's own of different kinds lie apart; samples within their bounds; a result in a block of its own. -/
namespace Go.Proofs.YtamcclcbmenjdaaGreatDoor
open Go.RowKit Go.Lib

theorem own_types {w : World} {b1 b2 e1 e2 s1 s2 n1 n2 : Nat} {v1 v2 : Value} {xs1 xs2 : List Value} (h1 : w.ownsRow b1 e1 s1 v1 n1 xs1) (h2 : w.ownsRow b2 e2 s2 v2 n2 xs2) (he : e1 ≠ e2) : Off v1 v2 := fun k e e' => by
  rcases h1.2 with ⟨rfl, _⟩ | ⟨g, cap, cur, rfl, _, hh, _⟩
  · cases e
  · rcases h2.2 with ⟨rfl, _⟩ | ⟨g2, cap2, cur2, rfl, _, hh2, _⟩
    · cases e'
    · have a1 : g = k := Option.some.inj e
      have a2 : g2 = k := Option.some.inj e'
      rw [a1] at hh; rw [a2, hh] at hh2
      simp only [Option.some.injEq, Obj.cells.injEq] at hh2
      exact he hh2.2.1
def Rng (l : List (Int × Nat)) : Prop := ∀ x ∈ l, -9223372036854775808 ≤ x.1 ∧ x.1 ≤ 9223372036854775807 ∧ x.2 ≤ 18446744073709551615
theorem Rng.snoc {l : List (Int × Nat)} {x : Int × Nat} (h : Rng l) (hx : -9223372036854775808 ≤ x.1 ∧ x.1 ≤ 9223372036854775807 ∧ x.2 ≤ 18446744073709551615) : Rng (l ++ [x]) := fun y hy => by
  rcases List.mem_append.1 hy with h1 | h1
  · exact h y h1
  · rw [List.mem_singleton.1 h1]; exact hx
theorem results_cell1Q {fn : Func} {p : Tmp} {ty : TypeId} (h : fn.results = #[.cell p ty]) (tmps : Array Value) (P : Program) (w : World) :
    (results fn tmps).run P w = ((asAddr (tmps.getD p undef)).run P w).andThen fun a w₁ => (loadVar ty a).run P w₁ := by
  simp only [results, h]
  simp [Sem.run_bind, Result.andThen]
theorem batch_wider {w : World} {B B' : Nat} {v : Value} {bs : List Ser} (h : BatchAt w B v bs) (hB : B ≤ B') : BatchAt w B' v bs := by
  obtain ⟨a, c, hv, hc, h2⟩ := h
  refine ⟨a, c, hv, hc, h2.imp id fun ⟨b, o, ha, hb, hcell⟩ => ⟨b, o, ha, by omega, fun i x hx => ?_⟩⟩
  obtain ⟨lv, sv, h1, h2, ⟨a3, c3, e3, l3, h3⟩, ⟨a4, c4, e4, l4, r4, h4⟩⟩ := hcell i x hx
  exact ⟨lv, sv, h1, h2, ⟨a3, c3, e3, l3, h3.imp id fun ⟨b, o, ha, hb, hh⟩ => ⟨b, o, ha, by omega, hh⟩⟩, ⟨a4, c4, e4, l4, r4, h4.imp id fun ⟨b, o, ha, hb, hh⟩ => ⟨b, o, ha, by omega, hh⟩⟩⟩
/-- What was there below, read in a later world. -/
theorem batch_on {w w' : World} {v : Value} {bs : List Ser} (h : BatchAt w w.heap.size v bs) (hb : Below w.heap.size w w') : BatchAt w' w'.heap.size v bs := batch_wider (h.kept fun k hk => hb.block k hk) hb.size
end Go.Proofs.YtamcclcbmenjdaaGreatDoor

/- A series as it is compared: by its labels. -/
import Derived.Test.YtcidgfdiacehmaaMergePure
import Derived.Test.YtcidgfdiacehmaaCheck
namespace Go.Proofs.Ytcidgfdiacehmaa
open Go.RowKit Go.Lib

def ElR (w : World) (x : Ser) (c0 c1 : Value) : Prop := LabelsAt w w.heap.size c0 x.1 ∧ SamplesAt w w.heap.size c1 x.2
def SmR (x : Ser) : Prop := x.1.length ≤ 10000000000000
theorem BatchAt.head {w : World} {v : Value} {x : Ser} {r : List Ser} (h : BatchAt w w.heap.size v (x :: r)) : ∃ b o k a0 a1, v = .slice (some ⟨b, o, none⟩) (r.length + 1) k ∧ b < w.heap.size ∧ w.cell? ⟨b, o, none⟩ = some a0 ∧ w.cell? ⟨b, o + 1, none⟩ = some a1 ∧ ElR w x a0 a1 := by
  obtain ⟨a, cap, rfl, _, h2⟩ := h
  rcases h2 with h2 | ⟨b, o, rfl, hb, hc⟩
  · cases h2
  · obtain ⟨lv, sv, c0, c1, hl, hs⟩ := hc 0 x rfl
    simp only [Nat.zero_mul, Nat.add_zero] at c0 c1
    exact ⟨b, o, cap, lv, sv, rfl, hb, c0, c1, hl, hs⟩
set_option maxRecDepth 100000 in
set_option maxHeartbeats 400000 in
theorem cmpR_any (x y : Ser) (a0 a1 d0 d1 : Value) (w0 w : World) (h1 : ElR w0 x a0 a1) (h2 : ElR w0 y d0 d1) (hk : ∀ k, k < w0.heap.size → w.heap[k]? = w0.heap[k]?) (hs : w0.heap.size ≤ w.heap.size) (h3 : SmR x) (_ : SmR y) :
    Calls Try.prog 42 #[.agg #[a0, a1], .agg #[d0, d1]] w fun e w' => e = .returned (.int .i64 (cmpS x y)) ∧ Below w.heap.size w w' := by
  obtain ⟨la1, lc1, rfl, -⟩ := id h1.1
  obtain ⟨sa1, sc1, rfl, -⟩ := id h1.2
  obtain ⟨la2, lc2, rfl, -⟩ := id h2.1
  obtain ⟨sa2, sc2, rfl, -⟩ := id h2.2
  have C : Hid (∀ W2 : World, Below w.heap.size w W2 → Calls Try.prog 40 #[.slice la1 x.1.length lc1, .slice la2 y.1.length lc2] W2 fun e w' => e = .returned (.int .i64 (cmpLabs x.1 y.1)) ∧ Below W2.heap.size W2 w') := fun W2 hW => by
    have hb : ∀ k, k < w0.heap.size → W2.heap[k]? = w0.heap[k]? := fun k hk' => (hW.block k (by omega)).trans (hk k hk')
    exact compareFunc_any w0.heap.size _ _ x.1 y.1 W2 (h1.1.kept hb) (h2.1.kept hb) (Nat.le_trans hs hW.size) h3
  clear h1 h2 hk
  go_enter Try.func42, Try.ntmps42
  go_wp2_with fail
  refine (C.out _ ?_).mono ?_
  · exact ((Below.refl _ _).alloc (Nat.le_refl _) _).alloc (by simp) _
  rintro e w2 ⟨rfl, hb2⟩
  have HB : Hid (Below w.heap.size w w2) := (((Below.refl _ _).alloc (Nat.le_refl _) _).alloc (by simp) _).trans (hb2.mono (by simp; omega))
  clear hb2 C
  go_wp2
  go_ret
  exact ⟨rfl, HB.out⟩
end Go.Proofs.Ytcidgfdiacehmaa

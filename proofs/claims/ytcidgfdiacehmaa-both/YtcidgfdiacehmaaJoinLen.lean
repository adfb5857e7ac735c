/- How long what is joined can be. -/
import Derived.Test.YtcidgfdiacehmaaMergePure
namespace Go.Proofs.Ytcidgfdiacehmaa
open Go.RowKit Go.Lib

theorem nodup_len {α : Type} [DecidableEq α] : ∀ (l m : List α), l.Pairwise (fun x y => x ≠ y) → (∀ x ∈ l, x ∈ m) → l.length ≤ m.length
  | [], m, _, _ => Nat.zero_le _
  | x :: l, m, h, hm => by
    obtain ⟨h1, h2⟩ := List.pairwise_cons.1 h
    have hx := hm x (List.mem_cons_self ..)
    have ih := nodup_len l (m.erase x) h2 fun y hy => (List.mem_erase_of_ne (h1 y hy).symm).2 (hm y (List.mem_cons_of_mem _ hy))
    have := List.length_erase_of_mem hx
    have := List.length_pos_of_mem hx
    simp only [List.length_cons]
    omega
theorem Tops.len {d j : List (Int × Nat)} (h : Tops d j) : j.length ≤ d.length :=
  nodup_len j d (h.rise.imp fun {x y} hlt e => by subst e; exact absurd hlt (Int.lt_irrefl _)) fun x hx => ((h.mem x.1 x.2).1 hx).1
theorem STops.len {d j : List Ser} (h : STops d j) : j.length ≤ d.length := by
  haveI : DecidableEq (List Lab) := fun a b => Classical.propDecidable (a = b)
  have := nodup_len (j.map (·.1)) (d.map (·.1)) (List.pairwise_map.2 (h.rise.imp fun {x y} hlt e => by
    have h1 : cmpLabs x.1 y.1 = -1 := hlt
    rw [e, cmpLabs_self] at h1; omega)) fun l hl => by
      obtain ⟨s, hs, rfl⟩ := List.mem_map.1 hl
      obtain ⟨x, hx, e⟩ := h.back s hs
      exact List.mem_map.2 ⟨x, hx, e⟩
  simpa using this
theorem filt_len (p : Ser → Bool) : ∀ d : List Ser, ((d.filter p).map (·.2)).flatten.length ≤ (d.map (·.2)).flatten.length
  | [] => Nat.le_refl _
  | x :: d => by
    have ih := filt_len p d
    rw [List.filter_cons]
    split
    · simp only [List.map_cons, List.flatten_cons, List.length_append]; omega
    · simp only [List.map_cons, List.flatten_cons, List.length_append]; omega
theorem STops.sams {d j : List Ser} (h : STops d j) {s : Ser} (hs : s ∈ j) : s.2.length ≤ (d.map (·.2)).flatten.length := by
  refine Nat.le_trans (h.tops s hs).len ?_
  exact filt_len _ d
end Go.Proofs.Ytcidgfdiacehmaa

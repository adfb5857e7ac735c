/- What both instances of join's heap use. -/
import Derived.Test.YtcidgfdiacehmaaMergePure
import Derived.Test.YtcidgfdiacehmaaBase
namespace Go.Proofs.Ytcidgfdiacehmaa
open Go.RowKit Go.Lib

/-- One element fewer. -/
theorem own_less {base e : Nat} {w : World} {g c : Nat} {xs : List Value} {x : Value} (h : w.ownsRow base e 1 (.slice (some ⟨g, 0, none⟩) (xs ++ [x]).length c) (xs ++ [x]).length (xs ++ [x])) : w.ownsRow base e 1 (.slice (some ⟨g, 0, none⟩) xs.length c) xs.length xs := by
  refine ⟨by simp, ?_⟩
  rcases h.2 with ⟨h0, _⟩ | ⟨g', cap, cur, he, hg, hh, hc, hcm, hcs, ht⟩
  · cases h0
  · cases he
    refine .inr ⟨g, c, cur, rfl, hg, hh, by simp at hc; omega, hcm, hcs, ?_⟩
    have := congrArg (List.take (xs.length * 1)) ht
    rw [List.take_take, Nat.min_eq_left (by simp), List.take_append_of_le_length (by simp)] at this
    simpa using this
theorem take_last {α : Type} {l : List α} {n : Nat} {x : α} (h : l[n]? = some x) (hn : l.length = n + 1) : l = l.take n ++ [x] := by
  have := take_more l n x h
  rw [← this, ← hn, List.take_length]
theorem restOf_mem {α : Type} {t : List α} {ls : List (List α)} {k : List α} (h : k ∈ restOf t ls) : k = t ∨ k ∈ ls := by
  unfold restOf at h; split at h
  · exact .inr h
  · exact List.mem_cons.1 h
theorem restOf_len {α : Type} (t : List α) (ls : List (List α)) : (restOf t ls).length ≤ ls.length + 1 := by
  unfold restOf; split <;> simp
theorem alloc_heap_new (w : World) (o : Obj) : (w.alloc o).heap[w.heap.size]? = some o := by rw [World.alloc]; simp
def sliceLen : Value → Nat
  | .slice _ n _ => n
  | _ => 0
theorem below_drewN (w : World) (n : Nat) : Below w.heap.size w (w.drewN n) := ⟨rfl, rfl, rfl, Nat.le_refl _, fun _ _ => rfl⟩
/-- Those that are not empty. -/
def full {α : Type} (ls : List (List α)) : List (List α) := ls.filter fun l => !l.isEmpty
theorem full_flat {α : Type} (ls : List (List α)) : (full ls).flatten = ls.flatten := List.flatten_filter_not_isEmpty
theorem full_snoc {α : Type} (ls : List (List α)) (l : List α) : (restOf l (full ls)).Perm (full (ls ++ [l])) := by
  unfold full restOf
  rw [List.filter_append]
  cases l with
  | nil => simp
  | cons x t => simp only [reduceCtorEq, if_false]; exact List.perm_append_comm (l₁ := [x :: t])
theorem full_len {α : Type} (ls : List (List α)) : (full ls).length ≤ ls.length := List.length_filter_le _ _
theorem full_rests {α : Type} {c : α → α → Int} {ls : List (List α)} (h : ∀ l ∈ ls, l.Pairwise fun x y => c x y = -1) : Rests c (full ls) :=
  ⟨fun l hl => by have := (List.mem_filter.1 hl).2; intro e; subst e; simp at this, fun l hl => h l (List.mem_filter.1 hl).1⟩
end Go.Proofs.Ytcidgfdiacehmaa

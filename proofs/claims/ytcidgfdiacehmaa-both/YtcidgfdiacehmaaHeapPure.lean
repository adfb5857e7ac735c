/- A heap, pure: what container/heap's loops keep. -/
import Derived.Test.YtcidgfdiacehmaaPlain
namespace Go.Proofs.Ytcidgfdiacehmaa.Hp

variable {α : Type}
/-- f with the places i and j turned round. -/
def swp (f : Nat → α) (i j : Nat) : Nat → α := fun k => if k = i then f j else if k = j then f i else f k
def IsHeap (le : α → α → Prop) (f : Nat → α) (n : Nat) : Prop := ∀ k, 0 < k → k < n → le (f ((k - 1) / 2)) (f k)
structure UpInv (le : α → α → Prop) (f : Nat → α) (n j : Nat) : Prop where
  rest : ∀ k, 0 < k → k < n → k ≠ j → le (f ((k - 1) / 2)) (f k)
  over : 0 < j → ∀ k, 0 < k → k < n → (k - 1) / 2 = j → le (f ((j - 1) / 2)) (f k)
structure DownInv (le : α → α → Prop) (f : Nat → α) (n i : Nat) : Prop where
  rest : ∀ k, 0 < k → k < n → (k - 1) / 2 ≠ i → le (f ((k - 1) / 2)) (f k)
  over : 0 < i → ∀ k, 0 < k → k < n → (k - 1) / 2 = i → le (f ((i - 1) / 2)) (f k)

theorem up_start {le : α → α → Prop} {f g : Nat → α} {n : Nat} (h : IsHeap le f n) (hg : ∀ k, k < n → g k = f k) : UpInv le g (n + 1) n := by
  refine ⟨fun k h0 hk hne => ?_, fun h0 k hk0 hk he => by omega⟩
  rw [hg _ (by omega), hg _ (by omega)]; exact h k h0 (by omega)
theorem up_step {le : α → α → Prop} (tot : ∀ a b, le a b ∨ le b a) (tr : ∀ {a b c}, le a b → le b c → le a c) {f : Nat → α} {n j : Nat} (h : UpInv le f n j) (hj : j < n) (h0 : 0 < j) (hlt : ¬ le (f ((j - 1) / 2)) (f j)) : UpInv le (swp f ((j - 1) / 2) j) n ((j - 1) / 2) := by
  have hle : le (f j) (f ((j - 1) / 2)) := (tot _ _).resolve_right hlt
  refine ⟨fun k hk0 hk hne => ?_, fun hp0 k hk0 hk he => ?_⟩
  · unfold swp
    by_cases e1 : k = j
    · subst e1
      rw [if_pos rfl, if_neg (by omega), if_pos rfl]; exact hle
    · rw [if_neg hne, if_neg e1]
      by_cases e2 : (k - 1) / 2 = (j - 1) / 2
      · rw [if_pos e2]
        have := h.rest k hk0 hk e1
        rw [e2] at this
        exact tr hle this
      · rw [if_neg e2]
        by_cases e3 : (k - 1) / 2 = j
        · rw [if_pos e3]; exact h.over h0 k hk0 hk e3
        · rw [if_neg e3]; exact h.rest k hk0 hk e1
  · unfold swp
    rw [if_neg (by omega), if_neg (by omega)]
    have hpp := h.rest ((j - 1) / 2) hp0 (by omega) (by omega)
    rw [if_neg (by omega)]
    by_cases e1 : k = j
    · rw [if_pos e1]; exact hpp
    · rw [if_neg e1]
      have := h.rest k hk0 hk e1
      rw [he] at this
      exact tr hpp this
theorem up_done {le : α → α → Prop} {f : Nat → α} {n j : Nat} (h : UpInv le f n j) (hd : j = 0 ∨ le (f ((j - 1) / 2)) (f j)) : IsHeap le f n := fun k h0 hk => by
  by_cases e : k = j
  · subst e
    rcases hd with hd | hd
    · omega
    · exact hd
  · exact h.rest k h0 hk e
theorem down_start {le : α → α → Prop} {f g : Nat → α} {n : Nat} (h : IsHeap le f (n + 1)) (hg : ∀ k, 0 < k → k < n → g k = f k) : DownInv le g n 0 := by
  refine ⟨fun k h0 hk hne => ?_, fun h0 => by omega⟩
  rw [hg _ (by omega) (by omega), hg _ (by omega) (by omega)]; exact h k h0 (by omega)
theorem down_step {le : α → α → Prop} (tot : ∀ a b, le a b ∨ le b a) {f : Nat → α} {n i c : Nat} (h : DownInv le f n i) (hc : c = 2 * i + 1 ∨ c = 2 * i + 2) (hcn : c < n) (hmin : ∀ d, d < n → (d = 2 * i + 1 ∨ d = 2 * i + 2) → le (f c) (f d)) (hlt : ¬ le (f i) (f c)) : DownInv le (swp f i c) n c := by
  have hle : le (f c) (f i) := (tot _ _).resolve_right hlt
  refine ⟨fun k hk0 hk hne => ?_, fun hp0 k hk0 hk he => ?_⟩
  · unfold swp
    by_cases e1 : (k - 1) / 2 = i
    · rw [if_pos e1]
      by_cases e2 : k = c
      · subst e2
        rw [if_neg (by omega), if_pos rfl]; exact hle
      · rw [if_neg (by omega), if_neg e2]
        exact hmin k hk (by omega)
    · rw [if_neg e1, if_neg (by omega)]
      by_cases e2 : k = i
      · subst e2
        rw [if_pos rfl]
        exact h.over hk0 c (by omega) hcn (by omega)
      · rw [if_neg e2]
        by_cases e3 : k = c
        · omega
        · rw [if_neg e3]; exact h.rest k hk0 hk e1
  · unfold swp
    have e : (c - 1) / 2 = i := by omega
    rw [if_pos e, if_neg (by omega), if_neg (by omega)]
    have := h.rest k hk0 hk (by omega)
    rw [he] at this; exact this
theorem down_done {le : α → α → Prop} {f : Nat → α} {n i : Nat} (h : DownInv le f n i) (hd : ∀ k, k < n → (k = 2 * i + 1 ∨ k = 2 * i + 2) → le (f i) (f k)) : IsHeap le f n := fun k h0 hk => by
  by_cases e : (k - 1) / 2 = i
  · rw [e]; exact hd k hk (by omega)
  · exact h.rest k h0 hk e
theorem heap_min {le : α → α → Prop} (tot : ∀ a b, le a b ∨ le b a) (tr : ∀ {a b c}, le a b → le b c → le a c) {f : Nat → α} {n : Nat} (h : IsHeap le f n) : ∀ k, k < n → le (f 0) (f k) := by
  intro k
  induction k using Nat.strongRecOn with
  | _ k ih =>
    intro hk
    by_cases e : k = 0
    · subst e; exact (tot _ _).elim id id
    · exact tr (ih ((k - 1) / 2) (by omega) (by omega)) (h k (by omega) hk)
/-- A list with two places turned round: it has the same members, as often. -/
theorem set_swap_perm (l : List α) (i j : Nat) (a b : α) (ha : l[i]? = some a) (hb : l[j]? = some b) : ((l.set i b).set j a).Perm l := by
  obtain ⟨hi, e1⟩ := List.getElem?_eq_some_iff.1 ha
  obtain ⟨hj, e2⟩ := List.getElem?_eq_some_iff.1 hb
  have h := Array.swap_perm (xs := l.toArray) (i := i) (j := j) (by simpa using hi) (by simpa using hj)
  have e : (l.toArray.swap i j (by simpa using hi) (by simpa using hj)).toList = (l.set i b).set j a := by
    rw [Array.swap_def]
    simp [e1, e2]
  have h2 := h.toList
  rw [e] at h2
  exact h2
end Go.Proofs.Ytcidgfdiacehmaa.Hp

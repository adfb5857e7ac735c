/- join's rests (of samples): restsOf. -/
import Derived.Test.YtcidgfdiacehmaaRest7S
namespace Go.Proofs.Ytcidgfdiacehmaa
open Go.RowKit Go.Lib

/-- A row of lists in memory, some of them maybe empty. -/
def RowsS (w : World) (v : Value) (ls : List (List (Int × Nat))) : Prop :=
  ∃ a cap, v = .slice a ls.length cap ∧ ∀ i l, ls[i]? = some l → ∃ b o la lc, a = some ⟨b, o, none⟩ ∧ b < w.heap.size ∧ w.cell? ⟨b, o + i, none⟩ = some (.slice la l.length lc) ∧ SamplesAt w w.heap.size (.slice la l.length lc) l
theorem HeapS.zero (W : World) : HeapS W (fun _ _ => False) (W.alloc (.cells #[.slice none 0 0, .func (.func 57) #[] #[]] 108)) W.heap.size [] := by
  refine ⟨.slice none 0 0, [], [], ⟨⟨(Below.refl _ _).alloc (Nat.le_refl _) _, Nat.le_refl _, by simp, World.cell?_alloc_new _ _ _ 0, World.cell?_alloc_new _ _ _ 1, World.frozen?_alloc_new _ _ _ 0, World.ownsRow_nil _ _ _ _, (fun e => (by cases e)), (fun k o h => False.elim h)⟩, ⟨rfl, fun i v l h _ => by simp at h⟩, rfl⟩, List.Perm.refl _, fun k _ h => by simp at h⟩

set_option maxRecDepth 100000 in
set_option maxHeartbeats 1000000 in
theorem restsOfS_any {ls : List (List (Int × Nat))} (W : World) (v : Value) (hv : RowsS W v ls) (hsm : ∀ k ∈ ls, ∀ x ∈ k, SmS x) (hn : ls.length ≤ 1000000000) :
    Calls Try.prog 56 #[v, .func (.func 57) #[] #[]] W fun e w' => ∃ hb, e = .returned (.pointer (some ⟨hb, 0, none⟩)) ∧ HeapS W (fun _ _ => False) w' hb (full ls) := by
  obtain ⟨a, cap, rfl, hv⟩ := hv
  have HV := hide hv
  have HSm := hide hsm
  have H0 := hide (HeapS.zero W)
  clear hv hsm
  go_enter Try.func56, Try.ntmps56
  go_wp2
  go_loopw [7, 13] (fun _ iv wr => ∃ (i : Nat), i ≤ ls.length ∧ iv = .int .i64 i ∧ Hid (HeapS W (fun _ _ => False) wr W.heap.size (full (ls.take i)))) (fun _ iv _ => ls.length - (intOf iv).toNat)
  case atStart => exact ⟨0, Nat.zero_le _, rfl, H0.out⟩
  case round =>
    clear H0
    obtain ⟨i, hi, rfl, H⟩ := hrel
    by_cases hlt : i < ls.length
    · obtain ⟨l, hl⟩ : ∃ l, ls[i]? = some l := ⟨_, List.getElem?_eq_getElem hlt⟩
      obtain ⟨b, o, la, lc, rfl, hb0, c0, hA⟩ := HV.out i l hl
      have hbl := H.out.below
      have m0 := (hbl.cell (p := ⟨b, o + i, none⟩) hb0).trans c0
      have ht := take_more ls i l hl
      have C := hide (addS_any wr H.out la lc l hA (fun k hk x hx => by
        rcases List.mem_cons.1 hk with rfl | hk
        · exact HSm.out _ (List.mem_of_getElem? hl) x hx
        · exact HSm.out k (List.mem_of_mem_take (List.mem_filter.1 hk).1) x hx) (by have := full_len (ls.take i); have := List.length_take_le i ls; omega))
      have HP : Hid (∀ w', HeapS W (fun _ _ => False) w' W.heap.size (restOf l (full (ls.take i))) → HeapS W (fun _ _ => False) w' W.heap.size (full (ls.take (i + 1)))) := fun w' h => by
        rw [ht]; exact h.perm (full_snoc _ _)
      have i1 : (i : Int) < (ls.length : Int) := by omega
      clear hl hA c0 hbl ht H
      go_wp2_with fail
      refine C.out.mono ?_
      rintro e w1 ⟨rfl, h1⟩
      have H1 := hide (HP.out _ h1)
      clear h1 C HP m0
      go_wp2
      go_roundw
      case rel => exact ⟨i + 1, by omega, by go_num, H1.out⟩
      case measure => simp [intOf]; omega
    · have hi' : i = ls.length := by omega
      have HE : Hid (HeapS W (fun _ _ => False) wr W.heap.size (full ls)) := by
        have h := H.out
        rw [hi', List.take_length] at h; exact h
      have i1 : ¬ (i : Int) < (ls.length : Int) := by omega
      clear H hi'
      go_wp2
      go_ret
      exact ⟨_, rfl, HE.out⟩
end Go.Proofs.Ytcidgfdiacehmaa

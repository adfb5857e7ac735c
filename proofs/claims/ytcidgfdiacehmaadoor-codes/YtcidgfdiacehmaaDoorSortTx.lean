/- slices.Sort and slices.Compact behind textsOf's loops; textsOf. -/
import Derived.Test.YtcidgfdiacehmaaDoorTexts
import Derived.Shelf.Slices.In.SortNone
namespace Go.Proofs.YtcidgfdiacehmaaDoor
open Go.RowKit Go.Lib Go.Sort

/-- The different strings of all labels, the lesser first. -/
def sortedTexts (l : List ByteArray) : List ByteArray := (Lib.compact ((l.map fun s => s.data.toList).mergeSort fun x y => decide (x ≤ y))).map fun x => ⟨x.toArray⟩

theorem below_putRow {B g off : Nat} {a w : World} {d : Array (List UInt8)} (h : Below B a w) (hg : B ≤ g) : Below B a (putRow encStr w g off d) := by
  refine h.trans ⟨rfl, rfl, rfl, by simp, fun k hk => ?_⟩
  simp only [putRow, mapBlock, Array.getElem?_modify]
  rw [if_neg (by omega)]
theorem below_ahead {B : Nat} {a w : World} (h : Below B a w) (n : Nat) : Below B a (Sort.ahead w n) := h.trans ⟨rfl, rfl, rfl, Nat.le_refl _, fun _ _ => rfl⟩
theorem below_grow {B : Nat} {a w : World} (h : Below B a w) (hB : B ≤ w.heap.size) (os : Array Obj) : Below B a (grow w os) := h.trans ⟨rfl, rfl, rfl, by simp, fun k hk => heap_grow_old w os (by omega)⟩

theorem str_eta (s : ByteArray) : (⟨s.data.toList.toArray⟩ : ByteArray) = s := by simp
theorem getElem!_list (zs : List (List UInt8)) (j : Nat) (hj : j < zs.length) : zs.toArray[j]! = zs[j] := by simp [hj]

theorem compact_le (zs : List (List UInt8)) : (Lib.compact zs).length ≤ zs.length := by
  unfold Lib.compact compactUpTo
  rw [List.length_map]
  exact Nat.le_trans (List.length_filter_le _ _) (by simp)

theorem sortCompact (w W : World) (o : Value) (l : List ByteArray) (h : Txt w W o l) (hl : l.length ≤ 100000) (h3 : 3 ≤ w.heap.size) :
    Calls Tryd.prog 63 #[o] W fun e w' => e = .returned (.tuple #[]) ∧ Calls Tryd.prog 64 #[o] w' fun e w'' => ∃ t, e = .returned t ∧ Below w.heap.size w w'' ∧
      ∃ tb, TextsAt w'' t tb (sortedTexts l) ∧ tb < w''.heap.size ∧ (tb = 0 ∨ w.heap.size ≤ tb) := by
  by_cases hn : l = []
  · subst hn
    obtain ⟨p, cap, rfl⟩ : ∃ p cap, o = .slice p 0 cap := by
      rcases h.own.2 with ⟨h1, _⟩ | ⟨g, cap, cur, h1, _⟩
      · exact ⟨_, _, h1⟩
      · exact ⟨_, _, h1⟩
    refine (Any.slices_Sort_string_none Tryd.lays190 p cap W).mono ?_
    rintro e w' ⟨rfl, rfl⟩
    refine ⟨rfl, ?_⟩
    refine (Tryd.slices_Compact_string_empty p cap w').mono ?_
    rintro e w'' ⟨rfl, rfl⟩
    exact ⟨_, rfl, h.below, 0, ⟨.inl ⟨by simp [sortedTexts, Lib.compact, compactUpTo], _, _, rfl⟩⟩, by have := h.below.size; omega, .inl rfl⟩
  · have hpos : 0 < l.length := List.length_pos_iff.2 hn
    obtain ⟨g, cap, rfl, hg⟩ := ownsRow_some h.own hpos
    have hgl : g < W.heap.size := (World.ownsRow.lt h.own g rfl).2
    obtain ⟨zs, hzs⟩ : ∃ zs, zs = l.map fun s => s.data.toList := ⟨_, rfl⟩
    have hlen : zs.length = l.length := by rw [hzs]; simp
    have hH : Holds encStr W g 0 zs.toArray := by
      intro j hj
      have hj' : j < l.length := by simpa [hlen] using hj
      refine ⟨?_, World.ownsRow.frozenAt h.own (0 + j)⟩
      rw [World.ownsRow.cellAt h.own (0 + j) (by omega), getElem!_list zs j (by omega)]
      subst hzs
      simp [Strs, hj']
    have hcap : l.length ≤ cap := by
      rcases h.own.2 with ⟨h1, _⟩ | ⟨g', cap', cur, h1, _, _, hc, _⟩
      · cases h1
      · cases h1; exact hc
    have S := Tryd.slices_Sort_string g 0 cap zs W hH hgl (by omega)
    rw [hlen] at S
    refine S.mono ?_
    rintro e w' ⟨rfl, n, os, rfl⟩
    refine ⟨rfl, ?_⟩
    obtain ⟨ys, hys⟩ : ∃ ys, ys = zs.mergeSort fun x y => decide (x ≤ y) := ⟨_, rfl⟩
    have hyl : ys.length = l.length := by rw [hys, List.length_mergeSort, hlen]
    rw [← hys]
    have hB1 : Below w.heap.size w (grow (putRow encStr (Sort.ahead W n) g 0 ys.toArray) os) := below_grow (below_putRow (below_ahead h.below n) hg) (by simp; exact h.below.size) os
    have hH1 : Holds encStr (grow (putRow encStr (Sort.ahead W n) g 0 ys.toArray) os) g 0 ys.toArray :=
      holds_grow encStr _ os g 0 _ (by simpa using hgl) (holds_putRow encStr _ g 0 zs.toArray _ (holds_ahead encStr W n g 0 _ hH) (by simp [hyl, hlen]))
    have hsz1 : g < (grow (putRow encStr (Sort.ahead W n) g 0 ys.toArray) os).heap.size := by simp; omega
    generalize grow (putRow encStr (Sort.ahead W n) g 0 ys.toArray) os = w1 at *
    have C := Tryd.slices_Compact_string g 0 cap ys w1 hH1 (by omega) (by omega)
    rw [hyl] at C
    refine C.mono ?_
    rintro e w'' ⟨rfl, q, rfl⟩
    refine ⟨_, rfl, below_putRow (below_ahead hB1 q) hg, g, ⟨.inr ⟨0, cap, ?_, ?_⟩⟩, by simpa using hsz1, .inr hg⟩
    · rw [sortedTexts, ← hzs, ← hys, List.length_map]
    · intro i x hx
      rw [sortedTexts, ← hzs, ← hys, List.getElem?_map] at hx
      obtain ⟨c, hc, rfl⟩ := Option.map_eq_some_iff.1 hx
      obtain ⟨hi, hci⟩ := List.getElem?_eq_some_iff.1 hc
      have hcl : (Lib.compact ys).length ≤ ys.length := compact_le ys
      have hcell := cell?_putRow encStr (Sort.ahead w1 q) g 0 ys.toArray (Lib.compact ys ++ List.replicate (l.length - (Lib.compact ys).length) []).toArray (holds_ahead encStr w1 q g 0 _ hH1) (by simp; omega) i (by simp; omega)
      rw [hcell, getElem!_list _ i (by simp; omega), List.getElem_append_left hi, hci]

/-- frame.textsOf: the different strings of all labels, sorted, in new memory. -/
theorem textsOf_any (B : Nat) (v : Value) (bs : List Ser) (w : World) (hb : BatchAt w B v bs) (hB : B ≤ w.heap.size) (hbl : bs.length ≤ 100) (hll : ∀ s ∈ bs, s.1.length ≤ 100) (h3 : 3 ≤ w.heap.size) :
    Calls Tryd.prog 46 #[v] w fun e w' => ∃ t, e = .returned t ∧ Below w.heap.size w w' ∧ ∃ tb, TextsAt w' t tb (sortedTexts (allTexts bs)) ∧ tb < w'.heap.size ∧ (tb = 0 ∨ w.heap.size ≤ tb) := by
  refine textsOf_loops B v bs w hb hB hbl hll (fun t w' => ∃ tb, TextsAt w' t tb (sortedTexts (allTexts bs)) ∧ tb < w'.heap.size ∧ (tb = 0 ∨ w.heap.size ≤ tb)) ?_
  intro W o h
  exact sortCompact w W o (allTexts bs) h (by have := allTexts_len bs hll; omega) h3
end Go.Proofs.YtcidgfdiacehmaaDoor

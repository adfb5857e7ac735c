/- 'choirlaw.Joins', for any two lists of series of bulk at most 1048576: Join answers the document's join or error, either way round; what is handed in stays, what comes out is its owner's. The second form's statement: its only condition is the row's own bound on the arguments' bulk. -/
import Derived.Test.YtcidgfdiacehmaaJoinsuptoG6
import Derived.Test.YtcidgfdiacehmaaJoinsuptoG8
import Derived.Test.YtcidgfdiacehmaaJoinsuptoG1
/- The caller's lists with room behind them: as data in memory. -/
namespace Go.Proofs.Ytcidgfdiacehmaa
open Go.RowKit Go.Lib

theorem Room.slice {w : World} {base T : Nat} {x z : Value × Value} {v v' : Value} {ps : List (Value × Value)} (h : Room w base T x z v v' ps) : ∃ a c, v' = .slice a ps.length c ∧ ps.length ≤ c ∧ (ps = [] ∨ ∃ g, a = some ⟨g, 0, none⟩ ∧ g < w.heap.size ∧ ∀ i p, ps[i]? = some p → w.cell? ⟨g, i * 2, none⟩ = some p.1 ∧ w.cell? ⟨g, i * 2 + 1, none⟩ = some p.2) := by
  rcases h with ⟨_, rfl, rfl⟩ | ⟨_, g, _, rfl, hB⟩
  · exact ⟨none, 0, rfl, Nat.le_refl _, .inl rfl⟩
  · refine ⟨_, _, rfl, by omega, .inr ⟨g, rfl, hB.lt, fun i p hp => ?_⟩⟩
    have := serCells_get (roomP_front ps x z 8 hp)
    exact ⟨hB.cell this.1, hB.cell this.2⟩
theorem RoomL.labelsAt {w : World} {base : Nat} {v v' : Value} {l : List Lab} (h : RoomL w base v v' l) : LabelsAt w w.heap.size v' l := by
  obtain ⟨a, c, hv, hc, h2⟩ := Room.slice h
  rw [labP_length] at hv hc
  refine ⟨a, c, hv, hc, ?_⟩
  rcases h2 with h2 | ⟨g, ha, hg, hcell⟩
  · exact .inl (by simpa [labP] using h2)
  · refine .inr ⟨g, 0, ha, hg, fun i x hx => ?_⟩
    rw [Nat.zero_add]
    exact hcell i (.string x.1, .string x.2) (by simp [labP, hx])
theorem RoomS.samplesAt {w : World} {base : Nat} {v v' : Value} {l : List (Int × Nat)} (h : RoomS w base v v' l) (hr : ∀ x ∈ l, -9223372036854775808 ≤ x.1 ∧ x.1 ≤ 9223372036854775807 ∧ x.2 ≤ 18446744073709551615) : SamplesAt w w.heap.size v' l := by
  obtain ⟨a, c, hv, hc, h2⟩ := Room.slice h
  rw [samP_length] at hv hc
  refine ⟨a, c, hv, hc, hr, ?_⟩
  rcases h2 with h2 | ⟨g, ha, hg, hcell⟩
  · exact .inl (by simpa [samP] using h2)
  · refine .inr ⟨g, 0, ha, hg, fun i x hx => ?_⟩
    rw [Nat.zero_add]
    exact hcell i _ (samP_get hx)
def InR (bs : List Ser) : Prop := ∀ s ∈ bs, ∀ x ∈ s.2, -9223372036854775808 ≤ x.1 ∧ x.1 ≤ 9223372036854775807 ∧ x.2 ≤ 18446744073709551615
theorem BatchV.inR {w : World} {B : Nat} {v : Value} {vals : List (Value × Value)} {bs : List Ser} (h : BatchV w B v vals bs) : InR bs := fun s hs => by
  obtain ⟨hl, _, _, _, _, _, h3⟩ := h
  obtain ⟨i, hi, rfl⟩ := List.mem_iff_getElem.1 hs
  obtain ⟨_, _, _, _, hr, _⟩ := (h3 i vals[i] bs[i] (List.getElem?_eq_getElem (by omega)) (List.getElem?_eq_getElem hi)).2
  exact hr
theorem InR.flip {bs : List Ser} (h : InR bs) : InR (flipB bs) := fun s hs x hx => by
  obtain ⟨t, ht, rfl⟩ := List.mem_map.1 hs
  obtain ⟨y, hy, rfl⟩ := List.mem_map.1 hx
  have := h t ht y hy
  exact ⟨this.1, this.2.1, flip_le this.2.2⟩
theorem RoomB.batchAt {w : World} {base : Nat} {v r : Value} {vals : List (Value × Value)} {bs : List Ser} {rv : List (Value × Value)} (h : RoomB w base v r vals bs rv) (hvl : vals.length = bs.length) (hr : InR bs) : BatchAt w w.heap.size r bs := by
  rcases h with ⟨_, rfl, rfl, _⟩ | ⟨_, g, bb, _, rfl, hl, _, hB, _, hro, _⟩
  · exact ⟨none, 0, rfl, Nat.le_refl _, .inl rfl⟩
  · refine ⟨_, _, rfl, by omega, .inr ⟨g, 0, rfl, hB.lt, fun i x hx => ?_⟩⟩
    have hi := (List.getElem?_eq_some_iff.1 hx).1
    obtain ⟨p, hp⟩ : ∃ p, vals[i]? = some p := ⟨_, List.getElem?_eq_getElem (by omega)⟩
    obtain ⟨q, hq⟩ : ∃ q, rv[i]? = some q := ⟨_, List.getElem?_eq_getElem (by omega)⟩
    have hg := serCells_get (l := rv ++ bb.map beyV) (i := i) (p := q) (by rw [List.getElem?_append_left (by omega)]; exact hq)
    have hh := hro i p q x hp hq hx
    rw [Nat.zero_add]
    exact ⟨q.1, q.2, hB.cell hg.1, hB.cell hg.2, RoomL.labelsAt hh.labels, RoomS.samplesAt hh.samples (hr x (List.mem_of_getElem? hx))⟩
theorem RoomB.kept {w w' : World} {base : Nat} {v r : Value} {vals : List (Value × Value)} {bs : List Ser} {rv : List (Value × Value)} (h : RoomB w base v r vals bs rv) (hk : ∀ k, base ≤ k → k < w.heap.size → w'.heap[k]? = w.heap[k]?) : RoomB w' base v r vals bs rv := by
  rcases h with h | ⟨h1, g, bb, hg, hr, hl, hb, hB, hbs, hro, ha⟩
  · exact .inl h
  · refine .inr ⟨h1, g, bb, hg, hr, hl, hb, hB.kept (hk g hg hB.lt), fun q hq => ⟨(hbs q hq).1, (hbs q hq).2.kept (hk q (hbs q hq).1 (hbs q hq).2.lt)⟩, fun i p q x hp hq hx => ?_, ha⟩
    have hh := hro i p q x hp hq hx
    refine hh.kept fun k e => ?_
    rcases e with e | e
    · have := Room.own hh.labels e; exact hk k this.1 this.2
    · have := Room.own hh.samples e; exact hk k this.1 this.2
theorem RoomB.below {w w' : World} {base : Nat} {v r : Value} {vals : List (Value × Value)} {bs : List Ser} {rv : List (Value × Value)} (h : RoomB w base v r vals bs rv) (hb : Below w.heap.size w w') : RoomB w' base v r vals bs rv := h.kept fun k _ hk => hb.block k hk
theorem RoomB.blocks {w : World} {base : Nat} {v r : Value} {vals : List (Value × Value)} {bs : List Ser} {rv : List (Value × Value)} (h : RoomB w base v r vals bs rv) (hvl : vals.length = bs.length) {k : Nat} (hk : sBlocks rv k) : base ≤ k ∧ k < w.heap.size := by
  obtain ⟨i, q, hq, hk⟩ := hk
  rcases h with ⟨_, _, _, rfl⟩ | ⟨h1, g, bb, hg, hr, hl, hb, hB, hbs, hro, ha⟩
  · simp at hq
  · have hi := (List.getElem?_eq_some_iff.1 hq).1
    exact Room.own (hro i vals[i] q bs[i] (List.getElem?_eq_getElem (by omega)) hq (List.getElem?_eq_getElem (by omega))).samples hk
theorem RoomB.shape {w : World} {base : Nat} {v r : Value} {vals : List (Value × Value)} {bs : List Ser} {rv : List (Value × Value)} (h : RoomB w base v r vals bs rv) : ∃ a n c, r = .slice a n c := by
  rcases h with ⟨_, rfl, _⟩ | ⟨_, g, bb, _, rfl, _⟩ <;> exact ⟨_, _, _, rfl⟩
theorem TurnAt.shape {w : World} {base : Nat} {v c : Value} {vals cv : List (Value × Value)} {bs : List Ser} (h : TurnAt w base v c vals cv bs) : ∃ a n m, c = .slice a n m := by
  rcases h with ⟨_, rfl, _⟩ | ⟨_, g, _, rfl, _⟩ <;> exact ⟨_, _, _, rfl⟩
theorem TurnAt.nils {w : World} {base : Nat} {v c : Value} {vals cv : List (Value × Value)} {bs : List Ser} (h : TurnAt w base v c vals cv bs) (hvl : vals.length = bs.length) : ∀ (i : Nat) (p q : Value × Value), vals[i]? = some p → cv[i]? = some q → isNil q.1 = isNil p.1 ∧ isNil q.2 = isNil p.2 := fun i p q hp hq => by
  rcases h with ⟨_, _, _, rfl⟩ | ⟨_, g, _, _, _, _, hf⟩
  · simp at hq
  · have hi := (List.getElem?_eq_some_iff.1 hp).1
    exact (hf i p q bs[i] hp hq (List.getElem?_eq_getElem (by omega))).nils
/-- What an input is bounded by. -/
structure Mid (bs : List Ser) : Prop where
  series : bs.length ≤ 3000000000000
  lists : ∀ s ∈ bs, s.1.length ≤ 4400000000000 ∧ s.2.length ≤ 8800000000000
theorem Mid.small {bs : List Ser} (h : Mid bs) : Small bs := ⟨by have := h.series; omega, fun s hs => by have := (h.lists s hs).1; omega, fun s hs => by have := (h.lists s hs).2; omega⟩
theorem Mid.flip {bs : List Ser} (h : Mid bs) : Mid (flipB bs) := ⟨by rw [flipB_length]; exact h.series, fun s hs => by
  obtain ⟨t, ht, rfl⟩ := List.mem_map.1 hs
  have := h.lists t ht
  exact ⟨this.1, by show (flipS t.2).length ≤ _; rw [flipS_length]; exact this.2⟩⟩
end Go.Proofs.Ytcidgfdiacehmaa

/- The order of texts. -/
namespace Go.Proofs.Ytcidgfdiacehmaa
open Go.RowKit Go.Lib

theorem less_eq : ∀ (x y : List UInt8), Op.bytesLess x y = decide (x < y)
  | [], [] => by simp [Op.bytesLess]
  | _ :: _, [] => by simp [Op.bytesLess]
  | [], _ :: _ => by simp [Op.bytesLess]
  | a :: x, b :: y => by
    rw [Op.bytesLess, less_eq x y]
    simp only [List.cons_lt_cons_iff]
    by_cases h1 : a < b <;> by_cases h2 : a = b <;> by_cases h3 : x < y <;> simp [h1, h2, h3]
theorem lt_of_le_ne {x y : List UInt8} (h : x ≤ y) (hne : x ≠ y) : x < y := by
  by_cases hlt : x < y
  · exact hlt
  · exact absurd (List.le_antisymm h (List.not_lt.1 hlt)) hne
def TLt (a b : ByteArray) : Prop := a.data.toList < b.data.toList
theorem tless (x s : ByteArray) : Op.bytesLess x.toList s.toList = true ↔ TLt x s := by
  rw [ByteArray.toList_eq, ByteArray.toList_eq, less_eq]; simp [TLt]
theorem tirr (x : ByteArray) : ¬ TLt x x := fun h => List.lt_irrefl _ h
theorem ttrans {x y z : ByteArray} (h : TLt x y) (g : TLt y z) : TLt x z := List.lt_trans h g
theorem ttotal {x y : ByteArray} (h : ¬ TLt x y) (hn : x ≠ y) : TLt y x := by
  refine lt_of_le_ne (List.not_lt.1 h) ?_
  intro e
  exact hn (ByteArray.ext (Array.ext' e.symm))
end Go.Proofs.Ytcidgfdiacehmaa

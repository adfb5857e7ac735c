/- choirlaw's roomy. -/
import Derived.Test.YtcidgfdiacehmaaLists1
import Derived.Deep.Slices
namespace Go.Proofs.Ytcidgfdiacehmaa
open Go.RowKit Go.Lib

/-- A batch that came in, with the values of its lists. -/
def BatchV (w : World) (B : Nat) (v : Value) (vals : List (Value × Value)) (bs : List Ser) : Prop :=
  vals.length = bs.length ∧ ∃ a cap, v = .slice a bs.length cap ∧ bs.length ≤ cap ∧
    (bs = [] ∨ ∃ b o, a = some ⟨b, o, none⟩ ∧ b < B ∧ ∀ i p, vals[i]? = some p → w.cell? ⟨b, o + i * 2, none⟩ = some p.1 ∧ w.cell? ⟨b, o + i * 2 + 1, none⟩ = some p.2) ∧
    ∀ (i : Nat) (p : Value × Value) (x : Ser), vals[i]? = some p → bs[i]? = some x → LabelsAt w B p.1 x.1 ∧ SamplesAt w B p.2 x.2
theorem BatchAt.vals {w : World} {B : Nat} {v : Value} {bs : List Ser} (h : BatchAt w B v bs) : ∃ vals, BatchV w B v vals bs := by
  obtain ⟨a, cap, hv, hcap, h2⟩ := h
  rcases h2 with h2 | ⟨b, o, ha, hb, hc⟩
  · subst h2
    exact ⟨[], rfl, a, cap, hv, hcap, .inl rfl, fun i p x hp => by simp at hp⟩
  · have each : ∀ i, i < bs.length → ∃ p : Value × Value, ∃ x, bs[i]? = some x ∧ w.cell? ⟨b, o + i * 2, none⟩ = some p.1 ∧ w.cell? ⟨b, o + i * 2 + 1, none⟩ = some p.2 ∧ LabelsAt w B p.1 x.1 ∧ SamplesAt w B p.2 x.2 := fun i hi => by
      obtain ⟨lv, sv, h⟩ := hc i bs[i] (List.getElem?_eq_getElem hi)
      exact ⟨(lv, sv), bs[i], List.getElem?_eq_getElem hi, h⟩
    obtain ⟨F, hF⟩ := Go.Deep.choose_lt each
    have hg : ∀ i p, ((List.range bs.length).map F)[i]? = some p → i < bs.length ∧ p = F i := fun i p hp => by
      have hi : i < bs.length := by have := (List.getElem?_eq_some_iff.1 hp).1; simpa using this
      rw [List.getElem?_map, List.getElem?_range hi] at hp
      exact ⟨hi, (Option.some.inj hp).symm⟩
    refine ⟨(List.range bs.length).map F, by simp, a, cap, hv, hcap, .inr ⟨b, o, ha, hb, fun i p hp => ?_⟩, fun i p x hp hx => ?_⟩
    · obtain ⟨hi, rfl⟩ := hg i p hp
      obtain ⟨x, _, h1, h2, _⟩ := hF i hi
      exact ⟨h1, h2⟩
    · obtain ⟨hi, rfl⟩ := hg i p hp
      obtain ⟨y, hy, _, _, h3, h4⟩ := hF i hi
      rw [hy] at hx; cases hx
      exact ⟨h3, h4⟩
theorem BatchV.batchAt {w : World} {B : Nat} {v : Value} {vals : List (Value × Value)} {bs : List Ser} (h : BatchV w B v vals bs) : BatchAt w B v bs := by
  obtain ⟨hl, a, cap, hv, hcap, h2, h3⟩ := h
  refine ⟨a, cap, hv, hcap, ?_⟩
  rcases h2 with h2 | ⟨b, o, ha, hb, hc⟩
  · exact .inl h2
  · refine .inr ⟨b, o, ha, hb, fun i x hx => ?_⟩
    obtain ⟨p, hp⟩ : ∃ p, vals[i]? = some p := ⟨_, List.getElem?_eq_getElem (by rw [hl]; exact (List.getElem?_eq_some_iff.1 hx).1)⟩
    exact ⟨p.1, p.2, (hc i p hp).1, (hc i p hp).2, (h3 i p x hp hx).1, (h3 i p x hp hx).2⟩
theorem BatchV.kept {w w' : World} {B : Nat} {v : Value} {vals : List (Value × Value)} {bs : List Ser} (h : BatchV w B v vals bs) (hk : ∀ k, k < B → w'.heap[k]? = w.heap[k]?) : BatchV w' B v vals bs := by
  obtain ⟨hl, a, cap, hv, hcap, h2, h3⟩ := h
  refine ⟨hl, a, cap, hv, hcap, ?_, fun i p x hp hx => ⟨(h3 i p x hp hx).1.kept hk, (h3 i p x hp hx).2.kept hk⟩⟩
  rcases h2 with h2 | ⟨b, o, ha, hb, hc⟩
  · exact .inl h2
  · exact .inr ⟨b, o, ha, hb, fun i p hp => ⟨(World.cell?_of_block (a := ⟨b, o + i * 2, none⟩) (hk b hb)).trans (hc i p hp).1, (World.cell?_of_block (a := ⟨b, o + i * 2 + 1, none⟩) (hk b hb)).trans (hc i p hp).2⟩⟩
theorem BatchV.below {w w' : World} {B B' : Nat} {v : Value} {vals : List (Value × Value)} {bs : List Ser} (h : BatchV w B v vals bs) (hb : Below B' w w') (hB : B ≤ B') : BatchV w' B v vals bs := h.kept fun k hk => hb.block k (by omega)

/-- The lists of one series, with room. -/
structure Roomed (w : World) (base : Nat) (p q : Value × Value) (x : Ser) : Prop where
  labels : RoomL w base p.1 q.1 x.1
  samples : RoomS w base p.2 q.2 x.2
/-- Blocks that are one behind the other: each list's own. -/
def Apart (rv : List (Value × Value)) (g : Nat) (bb : List Nat) : Prop :=
  ∀ (i : Nat) (q : Value × Value) (k : Nat), rv[i]? = some q → q.2.ownBlock = some k → k ≠ g ∧ k ∉ bb ∧ (∀ (j : Nat) (r : Value × Value), rv[j]? = some r → r.1.ownBlock ≠ some k ∧ (j ≠ i → r.2.ownBlock ≠ some k))
/-- The value of a list beyond the end. -/
def beyV (q : Nat) : Value × Value := (.slice (some ⟨q, 0, none⟩) 1 1, .slice none 0 0)
/-- What roomy makes. -/
def RoomB (w : World) (base : Nat) (v r : Value) (vals : List (Value × Value)) (bs : List Ser) (rv : List (Value × Value)) : Prop :=
  (isNil v = true ∧ r = .slice none 0 0 ∧ bs = [] ∧ rv = []) ∨ (isNil v = false ∧ ∃ g bb, base ≤ g ∧ r = .slice (some ⟨g, 0, none⟩) bs.length (bs.length + 8) ∧ rv.length = bs.length ∧ bb.length = 8 ∧
    Blk w g 37 (serCells (rv ++ bb.map beyV)) ∧ (∀ q ∈ bb, base ≤ q ∧ Blk w q 60 [.string bey, .string ByteArray.empty]) ∧
    (∀ (i : Nat) (p q : Value × Value) (x : Ser), vals[i]? = some p → rv[i]? = some q → bs[i]? = some x → Roomed w base p q x) ∧ Apart rv g bb)

theorem Room.own {w : World} {base T : Nat} {x z : Value × Value} {v v' : Value} {ps : List (Value × Value)} (h : Room w base T x z v v' ps) {k : Nat} (hk : v'.ownBlock = some k) : base ≤ k ∧ k < w.heap.size := by
  rcases h with ⟨_, rfl, _⟩ | ⟨_, g, hg, rfl, hB⟩
  · cases hk
  · cases hk; exact ⟨hg, hB.lt⟩
theorem Room.kept {w w' : World} {base T : Nat} {x z : Value × Value} {v v' : Value} {ps : List (Value × Value)} (h : Room w base T x z v v' ps) (hk : ∀ k, v'.ownBlock = some k → w'.heap[k]? = w.heap[k]?) : Room w' base T x z v v' ps := by
  rcases h with h | ⟨h1, g, hg, rfl, hB⟩
  · exact .inl h
  · exact .inr ⟨h1, g, hg, rfl, hB.kept (hk g rfl)⟩
theorem Room.mono {w : World} {base base' T : Nat} {x z : Value × Value} {v v' : Value} {ps : List (Value × Value)} (h : Room w base T x z v v' ps) (hb : base' ≤ base) : Room w base' T x z v v' ps := by
  rcases h with h | ⟨h1, g, hg, h2, hB⟩
  · exact .inl h
  · exact .inr ⟨h1, g, by omega, h2, hB⟩
theorem Roomed.kept {w w' : World} {base : Nat} {p q : Value × Value} {x : Ser} (h : Roomed w base p q x) (hk : ∀ k, q.1.ownBlock = some k ∨ q.2.ownBlock = some k → w'.heap[k]? = w.heap[k]?) : Roomed w' base p q x :=
  ⟨Room.kept h.labels fun k e => hk k (.inl e), Room.kept h.samples fun k e => hk k (.inr e)⟩

def nilP : Value × Value := (.slice none 0 0, .slice none 0 0)
/-- How far roomy has come. -/
structure Stage (w W : World) (g : Nat) (vals : List (Value × Value)) (bs : List Ser) (rv : List (Value × Value)) (bb : List Nat) : Prop where
  blk : Blk W g 37 (serCells (rv ++ bb.map beyV ++ List.replicate (bs.length + 8 - (rv.length + bb.length)) nilP))
  below : Below w.heap.size w W
  base : w.heap.size ≤ g
  bey : ∀ q ∈ bb, w.heap.size ≤ q ∧ q ≠ g ∧ Blk W q 60 [.string bey, .string ByteArray.empty]
  room : ∀ (i : Nat) (p q : Value × Value) (x : Ser), vals[i]? = some p → rv[i]? = some q → bs[i]? = some x → Roomed W w.heap.size p q x
  own : ∀ (i : Nat) (q : Value × Value) (k : Nat), rv[i]? = some q → q.1.ownBlock = some k ∨ q.2.ownBlock = some k → w.heap.size ≤ k ∧ k < W.heap.size ∧ k ≠ g
  apart : Apart rv g bb
theorem getElem?_snoc {α : Type} {l : List α} {a x : α} {i : Nat} (h : (l ++ [a])[i]? = some x) : (i < l.length ∧ l[i]? = some x) ∨ (i = l.length ∧ x = a) := by
  by_cases hi : i < l.length
  · rw [List.getElem?_append_left hi] at h; exact .inl ⟨hi, h⟩
  · have h2 : i < l.length + 1 := by have := (List.getElem?_eq_some_iff.1 h).1; simpa using this
    obtain rfl : i = l.length := by omega
    rw [List.getElem?_append_right (Nat.le_refl _), Nat.sub_self] at h
    exact .inr ⟨rfl, by simpa using h.symm⟩
theorem stage_set (rv : List (Value × Value)) (bb : List Nat) (n : Nat) (p : Value × Value) (h : rv.length + bb.length < n + 8) :
    (rv ++ bb.map beyV ++ List.replicate (n + 8 - (rv.length + bb.length)) nilP)[rv.length + bb.length]? = some nilP ∧
    (rv ++ bb.map beyV ++ List.replicate (n + 8 - (rv.length + bb.length)) nilP).set (rv.length + bb.length) p = rv ++ bb.map beyV ++ (p :: List.replicate (n + 8 - (rv.length + bb.length + 1)) nilP) := by
  have e : n + 8 - (rv.length + bb.length) = (n + 8 - (rv.length + bb.length + 1)) + 1 := by omega
  rw [e, List.replicate_succ]
  constructor
  · rw [List.getElem?_append_right (by simp)]; simp
  · rw [List.set_append_right _ _ (by simp)]; simp
/-- One series more. -/
theorem Stage.more {w W W2 W3 : World} {g : Nat} {vals : List (Value × Value)} {bs : List Ser} {rv : List (Value × Value)} (h : Stage w W g vals bs rv []) (hlt : rv.length < bs.length) {q : Value × Value}
    (hb : Below W.heap.size W W2) (hR : ∀ p x, vals[rv.length]? = some p → bs[rv.length]? = some x → Roomed W2 w.heap.size p q x)
    (hq1 : ∀ k, q.1.ownBlock = some k → W.heap.size ≤ k ∧ k < W2.heap.size) (hq2 : ∀ k, q.2.ownBlock = some k → W.heap.size ≤ k ∧ k < W2.heap.size) (hq : ∀ k, q.1.ownBlock = some k → q.2.ownBlock ≠ some k)
    (h3 : W3 = (W2.setCell ⟨g, rv.length * 2, none⟩ q.1).setCell ⟨g, rv.length * 2 + 1, none⟩ q.2) : Stage w W3 g vals bs (rv ++ [q]) [] := by
  have hg := h.blk.lt
  have hB2 := h.blk.below hb hg
  have hs := stage_set rv [] bs.length q (by simp; omega)
  have e1 := (serCells_set hB2 (rv.length + ([] : List Nat).length) hs.1 q.1).1
  have hs1 : ((rv ++ ([] : List Nat).map beyV ++ List.replicate (bs.length + 8 - (rv.length + ([] : List Nat).length)) nilP).set (rv.length + ([] : List Nat).length) (q.1, nilP.2))[rv.length + ([] : List Nat).length]? = some (q.1, nilP.2) := by
    rw [List.getElem?_set_self (List.getElem?_eq_some_iff.1 hs.1).1]
  have e2 := (serCells_set e1 (rv.length + ([] : List Nat).length) hs1 q.2).2
  rw [List.set_set, show ((q.1, q.2) : Value × Value) = q from rfl, hs.2] at e2
  simp only [List.length_nil, Nat.add_zero] at e2
  have hk3 : ∀ k, k ≠ g → W3.heap[k]? = W2.heap[k]? := fun k hk => by
    rw [h3, Below.heap_setCell _ _ _ k hk, Below.heap_setCell _ _ _ k hk]
  have hsz3 : W3.heap.size = W2.heap.size := by rw [h3]; simp
  have hsz := hb.size
  refine ⟨?_, ?_, h.base, (fun x hx => by cases hx), fun i p r x hp hr hx => ?_, fun i r k hr hk => ?_, fun i r k hr hk => ?_⟩
  · rw [h3]
    simpa using e2
  · rw [h3]
    exact ((h.below.trans (hb.mono h.below.size)).setCell h.base _).setCell h.base _
  · rcases getElem?_snoc hr with ⟨hi, hr⟩ | ⟨rfl, rfl⟩
    · refine (h.room i p r x hp hr hx).kept fun k hk => ?_
      obtain ⟨o1, o2, o3⟩ := h.own i r k hr hk
      rw [hk3 k o3]; exact hb.block k o2
    · refine (hR p x hp hx).kept fun k hk => hk3 k ?_
      rcases hk with hk | hk
      · have := hq1 k hk; omega
      · have := hq2 k hk; omega
  · rcases getElem?_snoc hr with ⟨hi, hr⟩ | ⟨rfl, rfl⟩
    · obtain ⟨o1, o2, o3⟩ := h.own i r k hr hk
      exact ⟨o1, by omega, o3⟩
    · have hws := h.below.size
      rcases hk with hk | hk
      · have := hq1 k hk; exact ⟨by omega, by omega, by omega⟩
      · have := hq2 k hk; exact ⟨by omega, by omega, by omega⟩
  · rcases getElem?_snoc hr with ⟨hi, hr⟩ | ⟨rfl, rfl⟩
    · obtain ⟨a1, a2, a3⟩ := h.apart i r k hr hk
      obtain ⟨o1, o2, o3⟩ := h.own i r k hr (.inr hk)
      refine ⟨a1, a2, fun j s hs => ?_⟩
      rcases getElem?_snoc hs with ⟨hj, hs⟩ | ⟨rfl, rfl⟩
      · exact a3 j s hs
      · exact ⟨fun e => by have := hq1 k e; omega, fun _ e => by have := hq2 k e; omega⟩
    · have hk2 := hq2 k hk
      refine ⟨by omega, by simp, fun j s hs => ?_⟩
      rcases getElem?_snoc hs with ⟨hj, hs⟩ | ⟨rfl, rfl⟩
      · exact ⟨fun e => by have := h.own j s k hs (.inl e); omega, fun _ e => by have := h.own j s k hs (.inr e); omega⟩
      · exact ⟨fun e => hq k e hk, fun hne => absurd rfl hne⟩
/-- One place beyond the end. -/
theorem Stage.beyond {w W W3 : World} {g : Nat} {vals : List (Value × Value)} {bs : List Ser} {rv : List (Value × Value)} {bb : List Nat} (h : Stage w W g vals bs rv bb) (hlt : rv.length + bb.length < bs.length + 8)
    (h3 : W3 = (W.setCell ⟨g, (rv.length + bb.length) * 2, none⟩ (.slice (some ⟨W.heap.size, 0, none⟩) 1 1)).alloc (.cells #[.string Go.Proofs.Ytcidgfdiacehmaa.bey, .string ByteArray.empty] 60)) : Stage w W3 g vals bs rv (bb ++ [W.heap.size]) := by
  have hg := h.blk.lt
  have hB2 := h.blk
  have hs := stage_set rv bb bs.length (beyV W.heap.size) hlt
  have e1 := (serCells_set hB2 (rv.length + bb.length) hs.1 (beyV W.heap.size).1).1
  rw [show (((beyV W.heap.size).1, nilP.2) : Value × Value) = beyV W.heap.size from rfl, hs.2] at e1
  have hk3 : ∀ k, k ≠ g → k < W.heap.size → W3.heap[k]? = W.heap[k]? := fun k hk hl => by
    rw [h3]
    exact (heap_alloc_old _ _ (by simpa using hl)).trans (Below.heap_setCell _ _ _ k hk)
  have hsz3 : W3.heap.size = W.heap.size + 1 := by rw [h3]; simp
  have hws := h.below.size
  refine ⟨?_, ?_, h.base, fun q hq => ?_, fun i p r x hp hr hx => ?_, fun i r k hr hk => ?_, fun i r k hr hk => ?_⟩
  · rw [h3]
    simp only [List.map_append, List.map_cons, List.map_nil, List.length_append, List.length_singleton]
    rw [show rv ++ (bb.map beyV ++ [beyV W.heap.size]) ++ List.replicate (bs.length + 8 - (rv.length + (bb.length + 1))) nilP = rv ++ bb.map beyV ++ (beyV W.heap.size :: List.replicate (bs.length + 8 - (rv.length + bb.length + 1)) nilP) by simp [Nat.add_assoc]]
    exact e1.alloc _
  · rw [h3]
    exact (h.below.setCell h.base _).alloc (by simpa using h.below.size) _
  · rcases List.mem_append.1 hq with hq | hq
    · obtain ⟨q1, q2, q3⟩ := h.bey q hq
      exact ⟨q1, q2, q3.kept (hk3 q q2 q3.lt)⟩
    · simp at hq; subst hq
      refine ⟨by omega, by omega, ?_⟩
      have := Blk.new (W.setCell ⟨g, (rv.length + bb.length) * 2, none⟩ (.slice (some ⟨W.heap.size, 0, none⟩) 1 1)) 60 [.string Go.Proofs.Ytcidgfdiacehmaa.bey, .string ByteArray.empty]
      rw [h3]
      simpa using this
  · refine (h.room i p r x hp hr hx).kept fun k hk => ?_
    obtain ⟨o1, o2, o3⟩ := h.own i r k hr hk
    exact hk3 k o3 o2
  · obtain ⟨o1, o2, o3⟩ := h.own i r k hr hk
    exact ⟨o1, by omega, o3⟩
  · obtain ⟨a1, a2, a3⟩ := h.apart i r k hr hk
    obtain ⟨o1, o2, o3⟩ := h.own i r k hr (.inr hk)
    refine ⟨a1, fun hm => ?_, a3⟩
    rcases List.mem_append.1 hm with hm | hm
    · exact a2 hm
    · simp at hm; omega
end Go.Proofs.Ytcidgfdiacehmaa

/- 'choirlaw.Joins', for any two lists of series of bulk at most 1048576: Join answers the document's join or error, either way round; what is handed in stays, what comes out is its owner's. The second form's statement: its only condition is the row's own bound on the arguments' bulk. -/
import Derived.Test.YtcidgfdiacehmaaJoinsuptoG2
import Derived.Deep.Slices
/- choirlaw's roomy. -/
namespace Go.Proofs.Ytcidgfdiacehmaa
open Go.RowKit Go.Lib

/-- A batch that came in, with the values of its lists. -/
def BatchV (w : World) (B : Nat) (v : Value) (vals : List (Value × Value)) (bs : List Ser) : Prop :=
  vals.length = bs.length ∧ ∃ a cap, v = .slice a bs.length cap ∧ bs.length ≤ cap ∧
    (bs = [] ∨ ∃ b o, a = some ⟨b, o, none⟩ ∧ b < B ∧ ∀ i p, vals[i]? = some p → w.cell? ⟨b, o + i * 2, none⟩ = some p.1 ∧ w.cell? ⟨b, o + i * 2 + 1, none⟩ = some p.2) ∧
    ∀ (i : Nat) (p : Value × Value) (x : Ser), vals[i]? = some p → bs[i]? = some x → LabelsAt w B p.1 x.1 ∧ SamplesAt w B p.2 x.2
theorem BatchAt.vals {w : World} {B : Nat} {v : Value} {bs : List Ser} (h : BatchAt w B v bs) : ∃ vals, BatchV w B v vals bs := by
  obtain ⟨a, cap, hv, hcap, h2⟩ := h
  rcases h2 with h2 | ⟨b, o, ha, hb, hc⟩
  · subst h2
    exact ⟨[], rfl, a, cap, hv, hcap, .inl rfl, fun i p x hp => by simp at hp⟩
  · have each : ∀ i, i < bs.length → ∃ p : Value × Value, ∃ x, bs[i]? = some x ∧ w.cell? ⟨b, o + i * 2, none⟩ = some p.1 ∧ w.cell? ⟨b, o + i * 2 + 1, none⟩ = some p.2 ∧ LabelsAt w B p.1 x.1 ∧ SamplesAt w B p.2 x.2 := fun i hi => by
      obtain ⟨lv, sv, h⟩ := hc i bs[i] (List.getElem?_eq_getElem hi)
      exact ⟨(lv, sv), bs[i], List.getElem?_eq_getElem hi, h⟩
    obtain ⟨F, hF⟩ := Go.Deep.choose_lt each
    have hg : ∀ i p, ((List.range bs.length).map F)[i]? = some p → i < bs.length ∧ p = F i := fun i p hp => by
      have hi : i < bs.length := by have := (List.getElem?_eq_some_iff.1 hp).1; simpa using this
      rw [List.getElem?_map, List.getElem?_range hi] at hp
      exact ⟨hi, (Option.some.inj hp).symm⟩
    refine ⟨(List.range bs.length).map F, by simp, a, cap, hv, hcap, .inr ⟨b, o, ha, hb, fun i p hp => ?_⟩, fun i p x hp hx => ?_⟩
    · obtain ⟨hi, rfl⟩ := hg i p hp
      obtain ⟨x, _, h1, h2, _⟩ := hF i hi
      exact ⟨h1, h2⟩
    · obtain ⟨hi, rfl⟩ := hg i p hp
      obtain ⟨y, hy, _, _, h3, h4⟩ := hF i hi
      rw [hy] at hx; cases hx
      exact ⟨h3, h4⟩
theorem BatchV.batchAt {w : World} {B : Nat} {v : Value} {vals : List (Value × Value)} {bs : List Ser} (h : BatchV w B v vals bs) : BatchAt w B v bs := by
  obtain ⟨hl, a, cap, hv, hcap, h2, h3⟩ := h
  refine ⟨a, cap, hv, hcap, ?_⟩
  rcases h2 with h2 | ⟨b, o, ha, hb, hc⟩
  · exact .inl h2
  · refine .inr ⟨b, o, ha, hb, fun i x hx => ?_⟩
    obtain ⟨p, hp⟩ : ∃ p, vals[i]? = some p := ⟨_, List.getElem?_eq_getElem (by rw [hl]; exact (List.getElem?_eq_some_iff.1 hx).1)⟩
    exact ⟨p.1, p.2, (hc i p hp).1, (hc i p hp).2, (h3 i p x hp hx).1, (h3 i p x hp hx).2⟩
theorem BatchV.kept {w w' : World} {B : Nat} {v : Value} {vals : List (Value × Value)} {bs : List Ser} (h : BatchV w B v vals bs) (hk : ∀ k, k < B → w'.heap[k]? = w.heap[k]?) : BatchV w' B v vals bs := by
  obtain ⟨hl, a, cap, hv, hcap, h2, h3⟩ := h
  refine ⟨hl, a, cap, hv, hcap, ?_, fun i p x hp hx => ⟨(h3 i p x hp hx).1.kept hk, (h3 i p x hp hx).2.kept hk⟩⟩
  rcases h2 with h2 | ⟨b, o, ha, hb, hc⟩
  · exact .inl h2
  · exact .inr ⟨b, o, ha, hb, fun i p hp => ⟨(World.cell?_of_block (a := ⟨b, o + i * 2, none⟩) (hk b hb)).trans (hc i p hp).1, (World.cell?_of_block (a := ⟨b, o + i * 2 + 1, none⟩) (hk b hb)).trans (hc i p hp).2⟩⟩
theorem BatchV.below {w w' : World} {B B' : Nat} {v : Value} {vals : List (Value × Value)} {bs : List Ser} (h : BatchV w B v vals bs) (hb : Below B' w w') (hB : B ≤ B') : BatchV w' B v vals bs := h.kept fun k hk => hb.block k (by omega)

/-- The lists of one series, with room. -/
structure Roomed (w : World) (base : Nat) (p q : Value × Value) (x : Ser) : Prop where
  labels : RoomL w base p.1 q.1 x.1
  samples : RoomS w base p.2 q.2 x.2
/-- Blocks that are one behind the other: each list's own. -/
def Apart (rv : List (Value × Value)) (g : Nat) (bb : List Nat) : Prop :=
  ∀ (i : Nat) (q : Value × Value) (k : Nat), rv[i]? = some q → q.2.ownBlock = some k → k ≠ g ∧ k ∉ bb ∧ (∀ (j : Nat) (r : Value × Value), rv[j]? = some r → r.1.ownBlock ≠ some k ∧ (j ≠ i → r.2.ownBlock ≠ some k))
/-- The value of a list beyond the end. -/
def beyV (q : Nat) : Value × Value := (.slice (some ⟨q, 0, none⟩) 1 1, .slice none 0 0)
/-- What roomy makes. -/
def RoomB (w : World) (base : Nat) (v r : Value) (vals : List (Value × Value)) (bs : List Ser) (rv : List (Value × Value)) : Prop :=
  (isNil v = true ∧ r = .slice none 0 0 ∧ bs = [] ∧ rv = []) ∨ (isNil v = false ∧ ∃ g bb, base ≤ g ∧ r = .slice (some ⟨g, 0, none⟩) bs.length (bs.length + 8) ∧ rv.length = bs.length ∧ bb.length = 8 ∧
    Blk w g 37 (serCells (rv ++ bb.map beyV)) ∧ (∀ q ∈ bb, base ≤ q ∧ Blk w q 60 [.string bey, .string ByteArray.empty]) ∧
    (∀ (i : Nat) (p q : Value × Value) (x : Ser), vals[i]? = some p → rv[i]? = some q → bs[i]? = some x → Roomed w base p q x) ∧ Apart rv g bb)

theorem Room.own {w : World} {base T : Nat} {x z : Value × Value} {v v' : Value} {ps : List (Value × Value)} (h : Room w base T x z v v' ps) {k : Nat} (hk : v'.ownBlock = some k) : base ≤ k ∧ k < w.heap.size := by
  rcases h with ⟨_, rfl, _⟩ | ⟨_, g, hg, rfl, hB⟩
  · cases hk
  · cases hk; exact ⟨hg, hB.lt⟩
theorem Room.kept {w w' : World} {base T : Nat} {x z : Value × Value} {v v' : Value} {ps : List (Value × Value)} (h : Room w base T x z v v' ps) (hk : ∀ k, v'.ownBlock = some k → w'.heap[k]? = w.heap[k]?) : Room w' base T x z v v' ps := by
  rcases h with h | ⟨h1, g, hg, rfl, hB⟩
  · exact .inl h
  · exact .inr ⟨h1, g, hg, rfl, hB.kept (hk g rfl)⟩
theorem Room.mono {w : World} {base base' T : Nat} {x z : Value × Value} {v v' : Value} {ps : List (Value × Value)} (h : Room w base T x z v v' ps) (hb : base' ≤ base) : Room w base' T x z v v' ps := by
  rcases h with h | ⟨h1, g, hg, h2, hB⟩
  · exact .inl h
  · exact .inr ⟨h1, g, by omega, h2, hB⟩
theorem Roomed.kept {w w' : World} {base : Nat} {p q : Value × Value} {x : Ser} (h : Roomed w base p q x) (hk : ∀ k, q.1.ownBlock = some k ∨ q.2.ownBlock = some k → w'.heap[k]? = w.heap[k]?) : Roomed w' base p q x :=
  ⟨Room.kept h.labels fun k e => hk k (.inl e), Room.kept h.samples fun k e => hk k (.inr e)⟩

def nilP : Value × Value := (.slice none 0 0, .slice none 0 0)
/-- How far roomy has come. -/
structure Stage (w W : World) (g : Nat) (vals : List (Value × Value)) (bs : List Ser) (rv : List (Value × Value)) (bb : List Nat) : Prop where
  blk : Blk W g 37 (serCells (rv ++ bb.map beyV ++ List.replicate (bs.length + 8 - (rv.length + bb.length)) nilP))
  below : Below w.heap.size w W
  base : w.heap.size ≤ g
  bey : ∀ q ∈ bb, w.heap.size ≤ q ∧ q ≠ g ∧ Blk W q 60 [.string bey, .string ByteArray.empty]
  room : ∀ (i : Nat) (p q : Value × Value) (x : Ser), vals[i]? = some p → rv[i]? = some q → bs[i]? = some x → Roomed W w.heap.size p q x
  own : ∀ (i : Nat) (q : Value × Value) (k : Nat), rv[i]? = some q → q.1.ownBlock = some k ∨ q.2.ownBlock = some k → w.heap.size ≤ k ∧ k < W.heap.size ∧ k ≠ g
  apart : Apart rv g bb
theorem stage_set (rv : List (Value × Value)) (bb : List Nat) (n : Nat) (p : Value × Value) (h : rv.length + bb.length < n + 8) :
    (rv ++ bb.map beyV ++ List.replicate (n + 8 - (rv.length + bb.length)) nilP)[rv.length + bb.length]? = some nilP ∧
    (rv ++ bb.map beyV ++ List.replicate (n + 8 - (rv.length + bb.length)) nilP).set (rv.length + bb.length) p = rv ++ bb.map beyV ++ (p :: List.replicate (n + 8 - (rv.length + bb.length + 1)) nilP) := by
  have e : n + 8 - (rv.length + bb.length) = (n + 8 - (rv.length + bb.length + 1)) + 1 := by omega
  rw [e, List.replicate_succ]
  constructor
  · rw [List.getElem?_append_right (by simp)]; simp
  · rw [List.set_append_right _ _ (by simp)]; simp
/-- One series more. -/
theorem Stage.more {w W W2 W3 : World} {g : Nat} {vals : List (Value × Value)} {bs : List Ser} {rv : List (Value × Value)} (h : Stage w W g vals bs rv []) (hlt : rv.length < bs.length) {q : Value × Value}
    (hb : Below W.heap.size W W2) (hR : ∀ p x, vals[rv.length]? = some p → bs[rv.length]? = some x → Roomed W2 w.heap.size p q x)
    (hq1 : ∀ k, q.1.ownBlock = some k → W.heap.size ≤ k ∧ k < W2.heap.size) (hq2 : ∀ k, q.2.ownBlock = some k → W.heap.size ≤ k ∧ k < W2.heap.size) (hq : ∀ k, q.1.ownBlock = some k → q.2.ownBlock ≠ some k)
    (h3 : W3 = (W2.setCell ⟨g, rv.length * 2, none⟩ q.1).setCell ⟨g, rv.length * 2 + 1, none⟩ q.2) : Stage w W3 g vals bs (rv ++ [q]) [] := by
  have hg := h.blk.lt
  have hB2 := h.blk.below hb hg
  have hs := stage_set rv [] bs.length q (by simp; omega)
  have e1 := (serCells_set hB2 (rv.length + ([] : List Nat).length) hs.1 q.1).1
  have hs1 : ((rv ++ ([] : List Nat).map beyV ++ List.replicate (bs.length + 8 - (rv.length + ([] : List Nat).length)) nilP).set (rv.length + ([] : List Nat).length) (q.1, nilP.2))[rv.length + ([] : List Nat).length]? = some (q.1, nilP.2) := by
    rw [List.getElem?_set_self (List.getElem?_eq_some_iff.1 hs.1).1]
  have e2 := (serCells_set e1 (rv.length + ([] : List Nat).length) hs1 q.2).2
  rw [List.set_set, show ((q.1, q.2) : Value × Value) = q from rfl, hs.2] at e2
  simp only [List.length_nil, Nat.add_zero] at e2
  have hk3 : ∀ k, k ≠ g → W3.heap[k]? = W2.heap[k]? := fun k hk => by
    rw [h3, Below.heap_setCell _ _ _ k hk, Below.heap_setCell _ _ _ k hk]
  have hsz3 : W3.heap.size = W2.heap.size := by rw [h3]; simp
  have hsz := hb.size
  refine ⟨?_, ?_, h.base, (fun x hx => by cases hx), fun i p r x hp hr hx => ?_, fun i r k hr hk => ?_, fun i r k hr hk => ?_⟩
  · rw [h3]
    simpa using e2
  · rw [h3]
    exact ((h.below.trans (hb.mono h.below.size)).setCell h.base _).setCell h.base _
  · rcases getElem?_snoc hr with ⟨hi, hr⟩ | ⟨rfl, rfl⟩
    · refine (h.room i p r x hp hr hx).kept fun k hk => ?_
      obtain ⟨o1, o2, o3⟩ := h.own i r k hr hk
      rw [hk3 k o3]; exact hb.block k o2
    · refine (hR p x hp hx).kept fun k hk => hk3 k ?_
      rcases hk with hk | hk
      · have := hq1 k hk; omega
      · have := hq2 k hk; omega
  · rcases getElem?_snoc hr with ⟨hi, hr⟩ | ⟨rfl, rfl⟩
    · obtain ⟨o1, o2, o3⟩ := h.own i r k hr hk
      exact ⟨o1, by omega, o3⟩
    · have hws := h.below.size
      rcases hk with hk | hk
      · have := hq1 k hk; exact ⟨by omega, by omega, by omega⟩
      · have := hq2 k hk; exact ⟨by omega, by omega, by omega⟩
  · rcases getElem?_snoc hr with ⟨hi, hr⟩ | ⟨rfl, rfl⟩
    · obtain ⟨a1, a2, a3⟩ := h.apart i r k hr hk
      obtain ⟨o1, o2, o3⟩ := h.own i r k hr (.inr hk)
      refine ⟨a1, a2, fun j s hs => ?_⟩
      rcases getElem?_snoc hs with ⟨hj, hs⟩ | ⟨rfl, rfl⟩
      · exact a3 j s hs
      · exact ⟨fun e => by have := hq1 k e; omega, fun _ e => by have := hq2 k e; omega⟩
    · have hk2 := hq2 k hk
      refine ⟨by omega, by simp, fun j s hs => ?_⟩
      rcases getElem?_snoc hs with ⟨hj, hs⟩ | ⟨rfl, rfl⟩
      · exact ⟨fun e => by have := h.own j s k hs (.inl e); omega, fun _ e => by have := h.own j s k hs (.inr e); omega⟩
      · exact ⟨fun e => hq k e hk, fun hne => absurd rfl hne⟩
/-- One place beyond the end. -/
theorem Stage.beyond {w W W3 : World} {g : Nat} {vals : List (Value × Value)} {bs : List Ser} {rv : List (Value × Value)} {bb : List Nat} (h : Stage w W g vals bs rv bb) (hlt : rv.length + bb.length < bs.length + 8)
    (h3 : W3 = (W.setCell ⟨g, (rv.length + bb.length) * 2, none⟩ (.slice (some ⟨W.heap.size, 0, none⟩) 1 1)).alloc (.cells #[.string Go.Proofs.Ytcidgfdiacehmaa.bey, .string ByteArray.empty] 60)) : Stage w W3 g vals bs rv (bb ++ [W.heap.size]) := by
  have hg := h.blk.lt
  have hB2 := h.blk
  have hs := stage_set rv bb bs.length (beyV W.heap.size) hlt
  have e1 := (serCells_set hB2 (rv.length + bb.length) hs.1 (beyV W.heap.size).1).1
  rw [show (((beyV W.heap.size).1, nilP.2) : Value × Value) = beyV W.heap.size from rfl, hs.2] at e1
  have hk3 : ∀ k, k ≠ g → k < W.heap.size → W3.heap[k]? = W.heap[k]? := fun k hk hl => by
    rw [h3]
    exact (heap_alloc_old _ _ (by simpa using hl)).trans (Below.heap_setCell _ _ _ k hk)
  have hsz3 : W3.heap.size = W.heap.size + 1 := by rw [h3]; simp
  have hws := h.below.size
  refine ⟨?_, ?_, h.base, fun q hq => ?_, fun i p r x hp hr hx => ?_, fun i r k hr hk => ?_, fun i r k hr hk => ?_⟩
  · rw [h3]
    simp only [List.map_append, List.map_cons, List.map_nil, List.length_append, List.length_singleton]
    rw [show rv ++ (bb.map beyV ++ [beyV W.heap.size]) ++ List.replicate (bs.length + 8 - (rv.length + (bb.length + 1))) nilP = rv ++ bb.map beyV ++ (beyV W.heap.size :: List.replicate (bs.length + 8 - (rv.length + bb.length + 1)) nilP) by simp [Nat.add_assoc]]
    exact e1.alloc _
  · rw [h3]
    exact (h.below.setCell h.base _).alloc (by simpa using h.below.size) _
  · rcases List.mem_append.1 hq with hq | hq
    · obtain ⟨q1, q2, q3⟩ := h.bey q hq
      exact ⟨q1, q2, q3.kept (hk3 q q2 q3.lt)⟩
    · simp at hq; subst hq
      refine ⟨by omega, by omega, ?_⟩
      have := Blk.new (W.setCell ⟨g, (rv.length + bb.length) * 2, none⟩ (.slice (some ⟨W.heap.size, 0, none⟩) 1 1)) 60 [.string Go.Proofs.Ytcidgfdiacehmaa.bey, .string ByteArray.empty]
      rw [h3]
      simpa using this
  · refine (h.room i p r x hp hr hx).kept fun k hk => ?_
    obtain ⟨o1, o2, o3⟩ := h.own i r k hr hk
    exact hk3 k o3 o2
  · obtain ⟨o1, o2, o3⟩ := h.own i r k hr hk
    exact ⟨o1, by omega, o3⟩
  · obtain ⟨a1, a2, a3⟩ := h.apart i r k hr hk
    obtain ⟨o1, o2, o3⟩ := h.own i r k hr (.inr hk)
    refine ⟨a1, fun hm => ?_, a3⟩
    rcases List.mem_append.1 hm with hm | hm
    · exact a2 hm
    · simp at hm; omega
end Go.Proofs.Ytcidgfdiacehmaa

/- choirlaw's roomy: the walk. -/
namespace Go.Proofs.Ytcidgfdiacehmaa
open Go.RowKit Go.Lib

theorem room_shape {w : World} {base T : Nat} {x z : Value × Value} {v v' : Value} {ps : List (Value × Value)} (h : Room w base T x z v v' ps) : ∃ a n c, v' = .slice a n c := by
  rcases h with ⟨_, rfl, _⟩ | ⟨_, g, _, rfl, _⟩ <;> exact ⟨_, _, _, rfl⟩

set_option maxRecDepth 100000 in
set_option maxHeartbeats 1000000 in
theorem roomy_any (B : Nat) (v : Value) (vals : List (Value × Value)) (bs : List Ser) (w : World) (hV : BatchV w B v vals bs) (hB : B ≤ w.heap.size) (hl : bs.length ≤ 3000000000000) (hll : ∀ s ∈ bs, s.1.length ≤ 4400000000000 ∧ s.2.length ≤ 8800000000000) :
    Calls Try.prog 10 #[v] w fun e w' => ∃ r, e = .returned r ∧ (∃ rv, RoomB w' w.heap.size v r vals bs rv) ∧ Below w.heap.size w w' := by
  obtain ⟨i0, hi, hz0, hz1, hz2⟩ := info_parts Try.infoSer
  obtain ⟨hvl, a, cap, rfl, hcap, h2, h3⟩ := id hV
  have hnil : ∀ (W : World) a n c, (binOp .eql 22 (.slice a n c) (.slice none 0 0)).run Try.prog W = .ok (.bool a.isNone) W := fun W a n c => Lib.run_eql_slice_nil W 22 37 a n c 0 0 Try.underlying22
  cases a with
  | none =>
    have hl0 : bs = [] := by
      rcases h2 with h | ⟨b, o, h, _⟩
      · exact h
      · cases h
    subst hl0
    clear hV h2 h3
    go_enter Try.func10, Try.ntmps10
    go_wp2
    go_ret
    exact ⟨_, rfl, ⟨[], .inl ⟨rfl, rfl, rfl, rfl⟩⟩, Below.refl _ _⟩
  | some a =>
    obtain ⟨w0, hmk, HS0⟩ : ∃ w0, (Instr.makeSlice 22 (.int .i64 ((bs.length : Int) + 8)) (.int .i64 ((bs.length : Int) + 8))).run Try.prog w = .ok (.slice (some ⟨w.heap.size, 0, none⟩) (bs.length + 8) (bs.length + 8)) w0 ∧ Hid (Stage w w0 w.heap.size vals bs [] []) := by
      have hm := run_make (P := Try.prog) w 22 37 i0 (.agg #[nilP.1, nilP.2]) Try.underlying22 hi hz0 .i64 .i64 ((bs.length : Int) + 8) ((bs.length : Int) + 8) (by omega) (by omega) (by rw [hz2]; omega) (by omega)
      have e8 : ((bs.length : Int) + 8).toNat = bs.length + 8 := by omega
      have e9 : (Value.agg #[nilP.1, nilP.2]).cells = #[nilP.1, nilP.2] := rfl
      rw [e8, hz1, e9, ← serCells_rep_arr nilP (bs.length + 8)] at hm
      refine ⟨_, hm, ⟨?_, (Below.refl _ _).alloc (Nat.le_refl _) _, Nat.le_refl _, (fun q h => by cases h), (fun i p q x _ h => by simp at h), (fun i q k h => by simp at h), (fun i q k h => by simp at h)⟩⟩
      have := Blk.new w 37 (serCells (List.replicate (bs.length + 8) nilP))
      simpa using this
    have HV := hide hV
    have HLL := hide hll
    clear hV h2 h3 hi hz0 hz1 hz2 hll
    go_enter Try.func10, Try.ntmps10
    go_wp2
    clear hmk
    go_loopw [5] (fun i wr => ∃ (rv : List (Value × Value)) (bb : List Nat), i = .int .i64 ((rv.length + bb.length : Nat) : Int) ∧ rv.length ≤ bs.length ∧ rv.length + bb.length ≤ bs.length + 8 ∧ (rv.length = bs.length ∨ bb = []) ∧ Hid (Stage w wr w.heap.size vals bs rv bb)) (fun i _ => bs.length + 8 - (intOf i).toNat)
    case atStart => exact ⟨[], [], rfl, by simp, by simp, .inr rfl, HS0.out⟩
    case round =>
      obtain ⟨rv, bb, rfl, h1, h2, h3, HS⟩ := hrel
      clear HS0
      by_cases hlt : rv.length + bb.length < bs.length + 8
      · by_cases hin : rv.length < bs.length
        · obtain rfl : bb = [] := by rcases h3 with h3 | h3; omega; exact h3
          obtain ⟨x, hx⟩ : ∃ x, bs[rv.length]? = some x := ⟨_, List.getElem?_eq_getElem hin⟩
          obtain ⟨p, hp⟩ : ∃ p, vals[rv.length]? = some p := ⟨_, List.getElem?_eq_getElem (by omega)⟩
          have hbl := HS.out.below
          have hsz := hbl.size
          have hgl := HS.out.blk.lt
          obtain ⟨_, _, _, hv4, _, h5, h6⟩ := HV.out
          cases hv4
          obtain ⟨hLa, hSa⟩ := h6 _ p x hp hx
          have hcc : ∃ b o, a = ⟨b, o, none⟩ ∧ b < B ∧ w.cell? ⟨b, o + rv.length * 2, none⟩ = some p.1 ∧ w.cell? ⟨b, o + rv.length * 2 + 1, none⟩ = some p.2 := by
            rcases h5 with h5 | ⟨b, o, ha, hb, hc⟩
            · rw [h5] at hin; simp at hin
            · exact ⟨b, o, Option.some.inj ha, hb, hc _ p hp⟩
          obtain ⟨b, o, rfl, hbB, c1, c2⟩ := hcc
          have hbw : b < w.heap.size := by omega
          have m1 := (hbl.cell (p := ⟨b, o + rv.length * 2, none⟩) hbw).trans c1
          have m2 := (hbl.cell (p := ⟨b, o + rv.length * 2 + 1, none⟩) hbw).trans c2
          have hxl := HLL.out x (List.mem_of_getElem? hx)
          have CL : Hid (∀ W, W.heap = wr.heap → Calls Try.prog 22 #[p.1] W fun e w' => ∃ v', e = .returned v' ∧ RoomL w' wr.heap.size p.1 v' x.1 ∧ Below wr.heap.size W w') := fun W hW => by
            have h := llabels_any B p.1 x.1 W (hLa.kept fun k hk => by rw [hW]; exact hbl.block k (by omega)) (by rw [hW]; omega) hxl.1
            rw [hW] at h; exact h
          have CS : Hid (∀ W, Below wr.heap.size wr W → Calls Try.prog 23 #[p.2] W fun e w' => ∃ v', e = .returned v' ∧ RoomS w' W.heap.size p.2 v' x.2 ∧ Below W.heap.size W w') := fun W hW =>
            lsamples_any B p.2 x.2 W (hSa.kept fun k hk => (hW.block k (by omega)).trans (hbl.block k (by omega))) (by have := hW.size; omega) hxl.2
          obtain ⟨la, lc, hpl, _⟩ := hLa
          obtain ⟨sa, sc, hps, _⟩ := hSa
          obtain ⟨p1, p2⟩ := p
          simp only at hpl hps
          subst hpl hps
          simp only at m1 m2 CL CS
          have hs := stage_set rv [] bs.length (.slice none 0 0, .slice none 0 0) (by simp; omega)
          have HG : Hid (∀ W, Below wr.heap.size wr W → W.cell? ⟨w.heap.size, rv.length * 2, none⟩ = some (.slice none 0 0) ∧ W.cell? ⟨w.heap.size, rv.length * 2 + 1, none⟩ = some (.slice none 0 0) ∧ W.frozen? ⟨w.heap.size, rv.length * 2, none⟩ = false ∧ W.frozen? ⟨w.heap.size, rv.length * 2 + 1, none⟩ = false) := fun W hW => by
            have hB := HS.out.blk.below hW hgl
            have hg := serCells_get hs.1
            simp only [List.length_nil, Nat.add_zero] at hg hB
            exact ⟨hB.cell hg.1, hB.cell hg.2, hB.frozen _, hB.frozen _⟩
          have HX := hide hx
          have HP := hide hp
          have hbne : ¬ b = w.heap.size := by omega
          have hbne2 : ¬ w.heap.size = b := by omega
          have k0 : (0 : Int) ≤ (rv.length : Int) := by omega
          have k1 : (rv.length : Int) < (bs.length : Int) := by omega
          have k2 : (rv.length : Int) < (bs.length : Int) + 8 := by omega
          have k3 : ¬ (bs.length : Int) ≤ (rv.length : Int) := by omega
          clear c1 c2 h5 h6 hs hx hp hbl hlt h3 HV HLL
          go_wp2
          as_aux_lemma =>
            go_region_held3 (fun w' => w'.cell? ⟨b, o + rv.length * 2, none⟩ = some (.slice la x.1.length lc) ∧ w'.cell? ⟨b, o + rv.length * 2 + 1, none⟩ = some (.slice sa x.2.length sc)) (go_keep) (first | (go_at_call 22; refine (CL.out _ (by exact rfl)).mono ?_; rintro e w2 ⟨v1, rfl, hR1, hb2⟩; have hb2' := (Below.refl wr.heap.size wr).drew.trans hb2; have hs2 : wr.heap.size ≤ w2.heap.size := hb2'.size; have e1 := (hb2'.cell (p := ⟨b, o + rv.length * 2, none⟩) (by show b < wr.heap.size; omega)).trans m1; have e2 := (hb2'.cell (p := ⟨b, o + rv.length * 2 + 1, none⟩) (by show b < wr.heap.size; omega)).trans m2; obtain ⟨a1, n1, q1, rfl⟩ := room_shape hR1) | (go_at_call 23; refine (CS.out _ (by exact hb2')).mono ?_; rintro e w3 ⟨v2, rfl, hR2, hb3⟩; have hb3' := hb2'.trans (hb3.mono hs2); have f1 := (hb3'.cell (p := ⟨b, o + rv.length * 2, none⟩) (by show b < wr.heap.size; omega)).trans m1; have f2 := (hb3'.cell (p := ⟨b, o + rv.length * 2 + 1, none⟩) (by show b < wr.heap.size; omega)).trans m2; obtain ⟨a2, n2, q2, rfl⟩ := room_shape hR2; obtain ⟨g1, g2, g3, g4⟩ := HG.out _ hb3'))
            all_goals
              have HN : Hid (Stage w ((w3.setCell ⟨w.heap.size, rv.length * 2, none⟩ (.slice a1 n1 q1)).setCell ⟨w.heap.size, rv.length * 2 + 1, none⟩ (.slice a2 n2 q2)) w.heap.size vals bs (rv ++ [(.slice a1 n1 q1, .slice a2 n2 q2)]) []) := by
                refine HS.out.more hin (q := (.slice a1 n1 q1, .slice a2 n2 q2)) hb3' (fun p y hp hy => ?_) (fun k hk => ?_) (fun k hk => ?_) (fun k hk hk2 => ?_) rfl
                · have h1 := HP.out
                  rw [hp] at h1; cases h1
                  have h2 := HX.out
                  rw [hy] at h2; cases h2
                  exact ⟨Room.mono (Room.kept hR1 fun k hk => hb3.block k (Room.own hR1 hk).2) hsz, Room.mono hR2 (by omega)⟩
                · have := Room.own hR1 hk
                  have := hb3.size
                  omega
                · have := Room.own hR2 hk
                  omega
                · have h1 := Room.own hR1 hk
                  have h2 := Room.own hR2 hk2
                  omega
              clear hb2 hb2' hb3 hb3' hR1 hR2 g1 g2 g3 g4 e1 e2 f1 f2 HP HX HG HS CL CS m1 m2
              go_wp2
              go_roundw
              case rel => exact ⟨rv ++ [(Value.slice a1 n1 q1, Value.slice a2 n2 q2)], [], by simp, by simp; omega, by simp; omega, .inr rfl, HN.out⟩
              case measure => simp [intOf]; omega
        · have hge : rv.length = bs.length := by omega
          have hgl := HS.out.blk.lt
          have hs := stage_set rv bb bs.length (.slice none 0 0, .slice none 0 0) hlt
          have hg := serCells_get hs.1
          have g1 : ∀ o, (wr.alloc o).cell? ⟨w.heap.size, (rv.length + bb.length) * 2, none⟩ = some nilP.1 := fun o => (HS.out.blk.alloc o).cell hg.1
          have g3 : ∀ o, (wr.alloc o).frozen? ⟨w.heap.size, (rv.length + bb.length) * 2, none⟩ = false := fun o => (HS.out.blk.alloc o).frozen ((rv.length + bb.length) * 2)
          have HN := hide (HS.out.beyond hlt rfl)
          simp only [nilP] at g1
          have k2 : ((rv.length + bb.length : Nat) : Int) < (bs.length : Int) + 8 := by omega
          have k3 : (bs.length : Int) ≤ ((rv.length + bb.length : Nat) : Int) := by omega
          have hlt2 : rv.length + bb.length < bs.length + 8 := hlt
          generalize hm : rv.length + bb.length = m at *
          have HM := hide hm
          clear hs hg HS hm HV HLL
          go_wp2
          go_roundw
          case rel => exact ⟨rv, bb ++ [wr.heap.size], by rw [List.length_append, List.length_singleton, ← Nat.add_assoc, HM.out]; go_num, h1, by simp; have := HM.out; omega, .inl hge, HN.out⟩
          case measure => simp [intOf]; omega
      · have he : rv.length = bs.length := by
          rcases h3 with h3 | h3
          · exact h3
          · subst h3; simp at hlt; omega
        have h8 : bb.length = 8 := by omega
        have hfin : RoomB wr w.heap.size (.slice (some a) bs.length cap) (.slice (some ⟨w.heap.size, 0, none⟩) bs.length (bs.length + 8)) vals bs rv := by
          refine .inr ⟨rfl, w.heap.size, bb, Nat.le_refl _, rfl, he, h8, ?_, fun q hq => ?_, HS.out.room, HS.out.apart⟩
          · have h := HS.out.blk
            rw [he, h8, Nat.sub_self, List.replicate_zero, List.append_nil] at h
            exact h
          · obtain ⟨q1, q2, q3⟩ := HS.out.bey q hq
            exact ⟨q1, q3⟩
        have HF := hide hfin
        have HB := hide HS.out.below
        have hk : ((rv.length + bb.length : Nat) : Int) = (bs.length : Int) + 8 := by omega
        have hk2 : ¬ ((rv.length + bb.length : Nat) : Int) < (bs.length : Int) + 8 := by omega
        clear hfin HS HV HLL
        generalize ((rv.length + bb.length : Nat) : Int) = m at *
        clear hk
        go_wp2
        go_ret
        exact ⟨_, rfl, ⟨rv, HF.out⟩, HB.out⟩
end Go.Proofs.Ytcidgfdiacehmaa

/- 'choirlaw.Merges', for any list of texts of bulk at most 1048576: Merge answers the document's frame or error; what is handed in stays. The second form's statement and its card: its only condition is the row's own bound on the argument's bulk. -/
import Derived.Test.YtamcclcbmenjdaaGreatDoorMergesuptoG40
import Derived.Test.YtamcclcbmenjdaaGreatDoorMergesuptoG16
import Derived.Test.YtamcclcbmenjdaaGreatDoorMergesuptoG30
import Derived.Laws.OwnMore
import Derived.Test.YtamcclcbmenjdaaGreatDoorMergesuptoG31
import Derived.Test.YtamcclcbmenjdaaGreatDoorMergesuptoG22
import Derived.Test.YtamcclcbmenjdaaGreatDoorMergesuptoG28
/- append of a whole list: 'append(out, b...)'; lists of series as rows of pairs. -/
namespace Go.Proofs.YtamcclcbmenjdaaGreatDoor
open Go.RowKit Go.Lib

section
variable {P : Program} (w : World)
theorem run_append_spread (base : Nat) (t ty e : TypeId) (i : TypeInfo) (z : Value) (size bytes : Nat) (ht : P.underlying t = some (.slice e)) (hi : P.info? e = some i) (hz : i.zero = some z)
    (hsize : i.size = size) (hby : i.bytes = bytes) (hzs : z.cells.size = size) (hsz : 0 < size)
    (v : Value) (n : Nat) (xs : List Value) (hown : w.ownsRow base e size v n xs)
    (sa : Option Addr) (m c : Nat) (news : List Value) (hl : news.length = m * size) (hsrc : m = 0 ∨ ∃ ad, sa = some ad ∧ ∀ j u, news[j]? = some u → w.cell? (ad.add j) = some u) (h1 : ∀ u ∈ news, u.oneCell' = true)
    (h63 : n + m ≤ maxLen) (hbytes : (n + m) * bytes ≤ 140737488355328) (hbase : base ≤ w.heap.size) :
    ∃ v' w', (Builtin.append_ #[t, t] ty #[v, .slice sa m c]).run P w = .ok v' w' ∧ w'.ownsRow base e size v' (n + m) (xs ++ news) ∧ w.grownBy w' v.ownBlock ∧ Heir w v v' := by
  cases sa with
  | some ad =>
    refine run_append_heir w base t ty e i z size bytes ht hi hz hsize hby hzs hsz v n xs hown ad m c news hl (fun j u hu => ?_) h1 h63 hbytes hbase
    rcases hsrc with h0 | ⟨a', ha, h⟩
    · have : news = [] := List.eq_nil_of_length_eq_zero (by rw [hl, h0]; simp)
      rw [this] at hu; cases hu
    · cases ha; exact h j u hu
  | none =>
    have h0 : m = 0 := by
      rcases hsrc with h0 | ⟨a', ha, _⟩
      · exact h0
      · cases ha
    subst h0
    have : news = [] := List.eq_nil_of_length_eq_zero (by rw [hl]; simp)
    subst this
    refine ⟨v, w, ?_, by simpa using hown, ⟨rfl, rfl, rfl, Nat.le_refl _, fun k _ _ => rfl⟩, .inl rfl⟩
    rcases hown.2 with ⟨rfl, rfl⟩ | ⟨g, cap, cur, rfl, _, _, hnc, _⟩
    · simp [Builtin.append_, run_underlying ht, sizeOf, typeInfo, hi, Builtin.lenOf, Builtin.firstCells]
    · simp [Builtin.append_, run_underlying ht, sizeOf, typeInfo, hi, Builtin.lenOf, Builtin.firstCells, hnc, storeCells]
theorem wpList_append_spread {ops : Array Oper} {rest : List Oper} {o : Oper} {a : Act} {Q : Exit → Act → World → Prop} (hgd : o.guard = none) (s x : Operand) (t : TypeId)
    (ho : o.op = .call { callee := .builtin .append, args := #[s, x], argTypes := #[t, t] })
    (base : Nat) (e : TypeId) (i : TypeInfo) (z : Value) (size bytes : Nat) (ht : P.underlying t = some (.slice e)) (hi : P.info? e = some i) (hz : i.zero = some z)
    (hsize : i.size = size) (hby : i.bytes = bytes) (hzs : z.cells.size = size) (hsz : 0 < size)
    (v : Value) (n : Nat) (xs : List Value) (hs : a.eval s = v) (hown : w.ownsRow base e size v n xs)
    (sa : Option Addr) (m c : Nat) (news : List Value) (hx : a.eval x = .slice sa m c) (hl : news.length = m * size) (hsrc : m = 0 ∨ ∃ ad, sa = some ad ∧ ∀ j u, news[j]? = some u → w.cell? (ad.add j) = some u) (h1 : ∀ u ∈ news, u.oneCell' = true)
    (h63 : n + m ≤ maxLen) (hbytes : (n + m) * bytes ≤ 140737488355328) (hbase : base ≤ w.heap.size)
    (h : ∀ v' w', w'.ownsRow base e size v' (n + m) (xs ++ news) → w.grownBy w' v.ownBlock → Heir w v v' → wpList P ops Q rest (a.put o.dst v') w') : wpList P ops Q (o :: rest) a w := by
  refine wpList_plain hgd fun K hK => ?_
  obtain ⟨v', w', hr, h2, h3, h4⟩ := run_append_spread (P := P) w base t o.type e i z size bytes ht hi hz hsize hby hzs hsz v n xs hown sa m c news hl hsrc h1 h63 hbytes hbase
  unfold Oper.wp execOp
  simp only [ho, resolve, invoke, builtin, Sem.run_bind, Sem.run_pure, Result.andThen_ok, List.map_toArray, List.map_cons, List.map_nil, hs, hx, hr]
  exact hK _ _ (h v' w' h2 h3 h4)
end
/-- A list's elements as pairs of values. -/
def Pairs (w : World) (B : Nat) (vals : List (Value × Value)) (bs : List Ser) : Prop :=
  vals.length = bs.length ∧ ∀ (i : Nat) (p : Value × Value) (x : Ser), vals[i]? = some p → bs[i]? = some x → LabelsAt w B p.1 x.1 ∧ SamplesAt w B p.2 x.2
theorem Pairs.nil (w : World) (B : Nat) : Pairs w B [] [] := ⟨rfl, fun i p x h => by simp at h⟩
theorem Pairs.app {w : World} {B : Nat} {vs us : List (Value × Value)} {bs cs : List Ser} (h : Pairs w B vs bs) (g : Pairs w B us cs) : Pairs w B (vs ++ us) (bs ++ cs) := by
  refine ⟨by simp [h.1, g.1], fun i p x hp hx => ?_⟩
  by_cases hi : i < vs.length
  · rw [List.getElem?_append_left hi] at hp
    rw [List.getElem?_append_left (by rw [← h.1]; exact hi)] at hx
    exact h.2 i p x hp hx
  · rw [List.getElem?_append_right (by omega)] at hp
    rw [List.getElem?_append_right (by rw [← h.1]; omega), ← h.1] at hx
    exact g.2 _ p x hp hx
theorem Pairs.one {w : World} {B : Nat} {p : Value × Value} {x : Ser} (h1 : LabelsAt w B p.1 x.1) (h2 : SamplesAt w B p.2 x.2) : Pairs w B [p] [x] := by
  refine ⟨rfl, fun i q y hq hy => ?_⟩
  match i, hq, hy with
  | 0, hq, hy => simp at hq hy; subst hq; subst hy; exact ⟨h1, h2⟩
  | i + 1, hq, _ => simp at hq
theorem Pairs.below {w w' : World} {B B' : Nat} {vs : List (Value × Value)} {bs : List Ser} (h : Pairs w B vs bs) (hb : Below B' w w') (hB : B ≤ B') : Pairs w' B vs bs :=
  ⟨h.1, fun i p x hp hx => ⟨(h.2 i p x hp hx).1.below hb hB, (h.2 i p x hp hx).2.below hb hB⟩⟩
theorem Pairs.wider {w : World} {B B' : Nat} {vs : List (Value × Value)} {bs : List Ser} (h : Pairs w B vs bs) (hB : B ≤ B') : Pairs w B' vs bs :=
  ⟨h.1, fun i p x hp hx => ⟨(h.2 i p x hp hx).1.wider hB, (h.2 i p x hp hx).2.wider hB⟩⟩
theorem Pairs.oneCell {w : World} {B : Nat} {vs : List (Value × Value)} {bs : List Ser} (h : Pairs w B vs bs) : ∀ u ∈ serCells vs, u.oneCell' = true := fun u hu => by
  obtain ⟨p, hp, hu⟩ := List.mem_flatMap.1 hu
  obtain ⟨i, hi, e⟩ := List.mem_iff_getElem.1 hp
  obtain ⟨x, hx⟩ : ∃ x, bs[i]? = some x := ⟨_, List.getElem?_eq_getElem (by rw [← h.1]; exact hi)⟩
  obtain ⟨⟨_, _, e1, _⟩, ⟨_, _, e2, _⟩⟩ := h.2 i p x (by rw [List.getElem?_eq_getElem hi, e]) hx
  rcases List.mem_cons.1 hu with rfl | hu
  · rw [e1]; rfl
  · rw [List.mem_singleton.1 hu, e2]; rfl
/-- A list in memory, as pairs. -/
theorem batchAt_pairs {w : World} {B : Nat} {a : Option Addr} {n c : Nat} {bs : List Ser} (h : BatchAt w B (.slice a n c) bs) : n = bs.length ∧ ∃ vals, Pairs w B vals bs ∧ (bs.length = 0 ∨ ∃ ad : Addr, a = some ad ∧ ad.block < B ∧ ∀ j u, (serCells vals)[j]? = some u → w.cell? (ad.add j) = some u) := by
  have hn : n = bs.length := by obtain ⟨_, _, hv, _⟩ := h; cases hv; rfl
  refine ⟨hn, ?_⟩
  have each : ∀ i, i < bs.length → ∃ p : Value × Value, ∀ x, bs[i]? = some x → LabelsAt w B p.1 x.1 ∧ SamplesAt w B p.2 x.2 ∧ ∀ b o, a = some ⟨b, o, none⟩ → w.cell? ⟨b, o + i * 2, none⟩ = some p.1 ∧ w.cell? ⟨b, o + i * 2 + 1, none⟩ = some p.2 := fun i hi => by
    obtain ⟨b, o, lv, sv, ha, _, c0, c1, h1, h2⟩ := batchGet h (List.getElem?_eq_getElem hi)
    refine ⟨(lv, sv), fun x hx => ?_⟩
    rw [List.getElem?_eq_getElem hi] at hx
    cases hx
    exact ⟨h1, h2, fun b' o' e => by rw [ha] at e; cases e; exact ⟨c0, c1⟩⟩
  obtain ⟨F, hF⟩ := Go.Deep.choose_lt each
  have hget : ∀ i p, ((List.range bs.length).map F)[i]? = some p → i < bs.length ∧ p = F i := fun i p hp => by
    have hi : i < bs.length := by have := (List.getElem?_eq_some_iff.1 hp).1; simpa using this
    rw [List.getElem?_map, List.getElem?_range hi] at hp
    exact ⟨hi, (Option.some.inj hp).symm⟩
  refine ⟨(List.range bs.length).map F, ⟨by simp, fun i p x hp hx => ?_⟩, ?_⟩
  · obtain ⟨hi, rfl⟩ := hget i p hp
    exact ⟨(hF i hi x hx).1, (hF i hi x hx).2.1⟩
  · by_cases h0 : bs.length = 0
    · exact .inl h0
    · obtain ⟨b, o, lv, sv, ha, hb, _⟩ := batchGet h (List.getElem?_eq_getElem (show 0 < bs.length by omega))
      refine .inr ⟨⟨b, o, none⟩, ha, hb, fun j u hu => ?_⟩
      rw [addr_add]
      have hj : j / 2 < bs.length := by
        have := (List.getElem?_eq_some_iff.1 hu).1
        rw [serCells_length] at this
        simp at this; omega
      have hp : ((List.range bs.length).map F)[j / 2]? = some (F (j / 2)) := by rw [List.getElem?_map, List.getElem?_range hj]; rfl
      have hs := serCells_get hp
      have hc := (hF (j / 2) hj _ (List.getElem?_eq_getElem hj)).2.2 b o ha
      rcases Nat.mod_two_eq_zero_or_one j with e | e
      · have e2 : j / 2 * 2 = j := by omega
        rw [e2] at hs hc
        rw [hs.1] at hu; cases hu; exact hc.1
      · have e2 : j / 2 * 2 + 1 = j := by omega
        rw [show o + j / 2 * 2 + 1 = o + (j / 2 * 2 + 1) by omega, e2] at hc
        rw [e2] at hs
        rw [hs.2] at hu; cases hu; exact hc.2
/-- A row of the call's own, whose pairs lie in memory. -/
theorem Pairs.batchAt {w : World} {base : Nat} {v : Value} {vals : List (Value × Value)} {bs : List Ser} (h : Pairs w w.heap.size vals bs) (h2 : w.ownsRow base 38 2 v bs.length (serCells vals)) : BatchAt w w.heap.size v bs := by
  have hlt := fun k e => (World.ownsRow.lt h2 k e).2
  rcases h2.2 with ⟨rfl, h0⟩ | ⟨g, cap, cur, rfl, hg, hh, hc, _⟩
  · exact ⟨none, 0, by rw [h0], by omega, .inl (List.eq_nil_of_length_eq_zero h0)⟩
  · refine ⟨_, cap, rfl, hc, .inr ⟨g, 0, rfl, hlt g rfl, fun i x hx => ?_⟩⟩
    obtain ⟨p, hp⟩ : ∃ p, vals[i]? = some p := ⟨_, List.getElem?_eq_getElem (by rw [h.1]; exact (List.getElem?_eq_some_iff.1 hx).1)⟩
    have := serCells_get hp
    rw [Nat.zero_add]
    exact ⟨p.1, p.2, own_cell h2 this.1, own_cell h2 this.2, h.2 i p x hp hx⟩
theorem pairs_len {w : World} {B : Nat} {vals : List (Value × Value)} {bs : List Ser} (h : Pairs w B vals bs) : (serCells vals).length = bs.length * 2 := by rw [serCells_length, h.1]; omega
end Go.Proofs.YtamcclcbmenjdaaGreatDoor

/- The reference's add: words and pure steps. -/
namespace Go.Proofs.YtamcclcbmenjdaaGreatDoor
open Go.RowKit Go.Lib

/-- What is left, put to the samples so far. -/
def addGo (s : Int × Nat) (put : Bool) (r : List (Int × Nat)) : List (Int × Nat) := if put then r else addS s r
def addBo (l : List Lab) (s : Int × Nat) (inn : Bool) (r : List Ser) : List Ser := if inn then r else addB l s r
/-- add's state: the row so far. -/
structure AddSt (W w : World) (t : Int) (u : Nat) (ov : Value) (done : List Ser) (vals : List (Value × Value)) (inn : Bool) : Prop where
  below : Below W.heap.size W w
  box : w.heap[W.heap.size]? = some (.cells #[.int .i64 t, .int .u64 u] 34)
  len : vals.length = done.length
  own : w.ownsRow (W.heap.size + 1) 38 2 ov done.length (serCells vals)
  ent : ∀ (i : Nat) (p : Value × Value) (x : Ser), vals[i]? = some p → done[i]? = some x → LabelsAt W W.heap.size p.1 x.1 ∧ (SamplesAt W W.heap.size p.2 x.2 ∨ (inn = true ∧ Rng x.2 ∧ w.ownsRow (W.heap.size + 1) 34 2 p.2 x.2.length (samCells x.2)))
theorem AddSt.grow {W w w2 : World} {t : Int} {u : Nat} {ov ov' : Value} {done xs : List Ser} {vals ps : List (Value × Value)} {inn inn' : Bool} (h : AddSt W w t u ov done vals inn) (hi : inn = true → inn' = true)
    (hk : ∀ k, k < w.heap.size → some k ≠ ov.ownBlock → w2.heap[k]? = w.heap[k]?) (hb : Below W.heap.size W w2) (ho : w2.ownsRow (W.heap.size + 1) 38 2 ov' (done.length + xs.length) (serCells vals ++ serCells ps)) (hl : ps.length = xs.length)
    (he : ∀ (i : Nat) (p : Value × Value) (x : Ser), ps[i]? = some p → xs[i]? = some x → LabelsAt W W.heap.size p.1 x.1 ∧ (SamplesAt W W.heap.size p.2 x.2 ∨ (inn' = true ∧ Rng x.2 ∧ w2.ownsRow (W.heap.size + 1) 34 2 p.2 x.2.length (samCells x.2)))) : AddSt W w2 t u ov' (done ++ xs) (vals ++ ps) inn' := by
  have hlt : ∀ k, ov.ownBlock = some k → W.heap.size + 1 ≤ k := fun k e => (World.ownsRow.lt h.own k e).1
  have hw : W.heap.size < w.heap.size := (Array.getElem?_eq_some_iff.1 h.box).1
  refine ⟨hb, (hk _ hw fun e => by have := hlt _ e.symm; omega).trans h.box, by simp [h.len, hl], by rw [List.length_append, serCells_app]; exact ho, fun i p x hp hx => ?_⟩
  by_cases hi2 : i < vals.length
  · rw [List.getElem?_append_left hi2] at hp
    rw [List.getElem?_append_left (by rw [← h.len]; exact hi2)] at hx
    obtain ⟨h1, h2⟩ := h.ent i p x hp hx
    refine ⟨h1, h2.imp id fun ⟨h3, h4, h5⟩ => ⟨hi h3, h4, own_kept h5 fun k e => hk k (World.ownsRow.lt h5 k e).2 fun e' => ?_⟩⟩
    exact own_types h5 h.own (by decide) k e e'.symm
  · rw [List.getElem?_append_right (by omega)] at hp
    rw [List.getElem?_append_right (by rw [← h.len]; omega), ← h.len] at hx
    exact he _ p x hp hx
/-- Nothing that was there has turned. -/
theorem AddSt.kept {W w w2 : World} {t : Int} {u : Nat} {ov : Value} {done : List Ser} {vals : List (Value × Value)} {inn : Bool} (h : AddSt W w t u ov done vals inn) (hb : Below w.heap.size w w2) : AddSt W w2 t u ov done vals inn := by
  have hw : W.heap.size < w.heap.size := (Array.getElem?_eq_some_iff.1 h.box).1
  refine ⟨h.below.trans (hb.mono (by omega)), (hb.block _ hw).trans h.box, h.len, own_kept h.own fun k e => hb.block k (World.ownsRow.lt h.own k e).2, fun i p x hp hx => ?_⟩
  obtain ⟨h1, h2⟩ := h.ent i p x hp hx
  exact ⟨h1, h2.imp id fun ⟨h3, h4, h5⟩ => ⟨h3, h4, own_kept h5 fun k e => hb.block k (World.ownsRow.lt h5 k e).2⟩⟩
/-- The samples' row has turned, as long as no list of the row is new. -/
theorem AddSt.other {W w w2 : World} {t : Int} {u n : Nat} {ov mv : Value} {done : List Ser} {vals : List (Value × Value)} {xs : List Value} (h : AddSt W w t u ov done vals false) (hm : w.ownsRow (W.heap.size + 1) 34 2 mv n xs)
    (hk : ∀ k, k < w.heap.size → some k ≠ mv.ownBlock → w2.heap[k]? = w.heap[k]?) (hb : Below W.heap.size W w2) : AddSt W w2 t u ov done vals false := by
  have hw : W.heap.size < w.heap.size := (Array.getElem?_eq_some_iff.1 h.box).1
  refine ⟨hb, (hk _ hw fun e => by have := (World.ownsRow.lt hm _ e.symm).1; omega).trans h.box, h.len, own_kept h.own fun k e => hk k (World.ownsRow.lt h.own k e).2 fun e' => own_types h.own hm (by decide) k e e'.symm, fun i p x hp hx => ?_⟩
  obtain ⟨h1, h2⟩ := h.ent i p x hp hx
  refine ⟨h1, h2.imp id fun ⟨h3, _⟩ => by cases h3⟩
theorem AddSt.batchAt {W w : World} {t : Int} {u : Nat} {ov : Value} {done : List Ser} {vals : List (Value × Value)} {inn : Bool} (h : AddSt W w t u ov done vals inn) : BatchAt w w.heap.size ov done :=
  Pairs.batchAt ⟨h.len, fun i p x hp hx => by
    obtain ⟨h1, h2⟩ := h.ent i p x hp hx
    refine ⟨(h1.below h.below (Nat.le_refl _)).wider h.below.size, ?_⟩
    rcases h2 with h2 | ⟨_, h3, h4⟩
    · exact (h2.below h.below (Nat.le_refl _)).wider h.below.size
    · exact samples_at h4 h3⟩ h.own
theorem AddSt.cells {W w : World} {t : Int} {u : Nat} {ov : Value} {done : List Ser} {vals : List (Value × Value)} {inn : Bool} (h : AddSt W w t u ov done vals inn) : w.cell? ⟨W.heap.size, 0, none⟩ = some (.int .i64 t) ∧ w.cell? ⟨W.heap.size, 1, none⟩ = some (.int .u64 u) ∧ W.heap.size < w.heap.size := by
  refine ⟨?_, ?_, (Array.getElem?_eq_some_iff.1 h.box).1⟩
  · exact cell_of_row w W.heap.size 0 _ _ (0, 0) h.box
  · exact cell_of_row w W.heap.size 1 _ _ (0, 0) h.box
theorem ent_one {W w : World} {inn : Bool} {q : Value × Value} {y : Ser} (h1 : LabelsAt W W.heap.size q.1 y.1) (h2 : SamplesAt W W.heap.size q.2 y.2 ∨ (inn = true ∧ Rng y.2 ∧ w.ownsRow (W.heap.size + 1) 34 2 q.2 y.2.length (samCells y.2))) :
    ∀ (i : Nat) (p : Value × Value) (x : Ser), [q][i]? = some p → [y][i]? = some x → LabelsAt W W.heap.size p.1 x.1 ∧ (SamplesAt W W.heap.size p.2 x.2 ∨ (inn = true ∧ Rng x.2 ∧ w.ownsRow (W.heap.size + 1) 34 2 p.2 x.2.length (samCells x.2))) := fun i p x hp hx => by
  match i, hp, hx with
  | 0, hp, hx => simp at hp hx; subst hp; subst hx; exact ⟨h1, h2⟩
  | i + 1, hp, _ => simp at hp
theorem drop_more {α : Type} {l : List α} {k : Nat} {x : α} (h : l[k]? = some x) : l.drop k = x :: l.drop (k + 1) := by
  obtain ⟨hk, e⟩ := List.getElem?_eq_some_iff.1 h
  rw [List.drop_eq_getElem_cons hk, e]
theorem addGo_next {s x : Int × Nat} {pb : Bool} {m r : List (Int × Nat)} {k : Nat} {sl : List (Int × Nat)} (hx : sl[k]? = some x) (h : m ++ addGo s pb (sl.drop k) = r) (hp : pb = true → ∀ y ∈ sl.drop k, s.1 < y.1) (hr : sl.Pairwise SLt) :
    (pb = true → s.1 < x.1 ∧ (m ++ [x]) ++ addGo s true (sl.drop (k + 1)) = r) ∧ (pb = false → s.1 < x.1 → ((m ++ [s]) ++ [x]) ++ addGo s true (sl.drop (k + 1)) = r) ∧
    (pb = false → x.1 = s.1 → (m ++ [if x.2 < s.2 then s else x]) ++ addGo s true (sl.drop (k + 1)) = r) ∧ (pb = false → x.1 < s.1 → (m ++ [x]) ++ addGo s false (sl.drop (k + 1)) = r) ∧ (s.1 ≤ x.1 → ∀ y ∈ sl.drop (k + 1), s.1 < y.1) := by
  rw [drop_more hx] at h hp
  have hr2 : (sl.drop k).Pairwise SLt := hr.drop
  rw [drop_more hx] at hr2
  obtain ⟨h1, _⟩ := List.pairwise_cons.1 hr2
  refine ⟨fun e => ?_, fun e hlt => ?_, fun e he => ?_, fun e hlt => ?_, fun hle y hy => ?_⟩
  · subst e
    exact ⟨hp rfl x (List.mem_cons_self ..), by rw [← h]; simp [addGo]⟩
  · subst e
    rw [← h]; simp [addGo, addS, hlt]
  · subst e
    rw [← h]
    have h2 : ¬ s.1 < x.1 := by omega
    simp [addGo, addS, he]
  · subst e
    rw [← h]
    have h2 : ¬ s.1 < x.1 := by omega
    have h3 : ¬ x.1 = s.1 := by omega
    simp [addGo, addS, h2, h3]
  · have : x.1 < y.1 := h1 y hy
    omega
end Go.Proofs.YtamcclcbmenjdaaGreatDoor

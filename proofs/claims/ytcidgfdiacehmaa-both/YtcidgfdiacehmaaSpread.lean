/- append of a whole list: 'append(out, b...)'; lists of series as rows of pairs. -/
import Derived.Test.YtcidgfdiacehmaaJoined
import Derived.Test.YtcidgfdiacehmaaBlk
import Derived.Test.YtcidgfdiacehmaaInRaw
import Derived.Laws.OwnMore
namespace Go.Proofs.Ytcidgfdiacehmaa
open Go.RowKit Go.Lib

section
variable {P : Program} (w : World)
theorem run_append_spread (base : Nat) (t ty e : TypeId) (i : TypeInfo) (z : Value) (size bytes : Nat) (ht : P.underlying t = some (.slice e)) (hi : P.info? e = some i) (hz : i.zero = some z)
    (hsize : i.size = size) (hby : i.bytes = bytes) (hzs : z.cells.size = size) (hsz : 0 < size)
    (v : Value) (n : Nat) (xs : List Value) (hown : w.ownsRow base e size v n xs)
    (sa : Option Addr) (m c : Nat) (news : List Value) (hl : news.length = m * size) (hsrc : m = 0 ∨ ∃ ad, sa = some ad ∧ ∀ j u, news[j]? = some u → w.cell? (ad.add j) = some u) (h1 : ∀ u ∈ news, u.oneCell' = true)
    (h63 : n + m ≤ maxLen) (hbytes : (n + m) * bytes ≤ 140737488355328) (hbase : base ≤ w.heap.size) :
    ∃ v' w', (Builtin.append_ #[t, t] ty #[v, .slice sa m c]).run P w = .ok v' w' ∧ w'.ownsRow base e size v' (n + m) (xs ++ news) ∧ w.grownBy w' v.ownBlock ∧ Heir w v v' := by
  cases sa with
  | some ad =>
    refine run_append_heir w base t ty e i z size bytes ht hi hz hsize hby hzs hsz v n xs hown ad m c news hl (fun j u hu => ?_) h1 h63 hbytes hbase
    rcases hsrc with h0 | ⟨a', ha, h⟩
    · have : news = [] := List.eq_nil_of_length_eq_zero (by rw [hl, h0]; simp)
      rw [this] at hu; cases hu
    · cases ha; exact h j u hu
  | none =>
    have h0 : m = 0 := by
      rcases hsrc with h0 | ⟨a', ha, _⟩
      · exact h0
      · cases ha
    subst h0
    have : news = [] := List.eq_nil_of_length_eq_zero (by rw [hl]; simp)
    subst this
    refine ⟨v, w, ?_, by simpa using hown, ⟨rfl, rfl, rfl, Nat.le_refl _, fun k _ _ => rfl⟩, .inl rfl⟩
    rcases hown.2 with ⟨rfl, rfl⟩ | ⟨g, cap, cur, rfl, _, _, hnc, _⟩
    · simp [Builtin.append_, run_underlying ht, sizeOf, typeInfo, hi, Builtin.lenOf, Builtin.firstCells]
    · simp [Builtin.append_, run_underlying ht, sizeOf, typeInfo, hi, Builtin.lenOf, Builtin.firstCells, hnc, storeCells]
theorem wpList_append_spread {ops : Array Oper} {rest : List Oper} {o : Oper} {a : Act} {Q : Exit → Act → World → Prop} (hgd : o.guard = none) (s x : Operand) (t : TypeId)
    (ho : o.op = .call { callee := .builtin .append, args := #[s, x], argTypes := #[t, t] })
    (base : Nat) (e : TypeId) (i : TypeInfo) (z : Value) (size bytes : Nat) (ht : P.underlying t = some (.slice e)) (hi : P.info? e = some i) (hz : i.zero = some z)
    (hsize : i.size = size) (hby : i.bytes = bytes) (hzs : z.cells.size = size) (hsz : 0 < size)
    (v : Value) (n : Nat) (xs : List Value) (hs : a.eval s = v) (hown : w.ownsRow base e size v n xs)
    (sa : Option Addr) (m c : Nat) (news : List Value) (hx : a.eval x = .slice sa m c) (hl : news.length = m * size) (hsrc : m = 0 ∨ ∃ ad, sa = some ad ∧ ∀ j u, news[j]? = some u → w.cell? (ad.add j) = some u) (h1 : ∀ u ∈ news, u.oneCell' = true)
    (h63 : n + m ≤ maxLen) (hbytes : (n + m) * bytes ≤ 140737488355328) (hbase : base ≤ w.heap.size)
    (h : ∀ v' w', w'.ownsRow base e size v' (n + m) (xs ++ news) → w.grownBy w' v.ownBlock → Heir w v v' → wpList P ops Q rest (a.put o.dst v') w') : wpList P ops Q (o :: rest) a w := by
  refine wpList_plain hgd fun K hK => ?_
  obtain ⟨v', w', hr, h2, h3, h4⟩ := run_append_spread (P := P) w base t o.type e i z size bytes ht hi hz hsize hby hzs hsz v n xs hown sa m c news hl hsrc h1 h63 hbytes hbase
  unfold Oper.wp execOp
  simp only [ho, resolve, invoke, builtin, Sem.run_bind, Sem.run_pure, Result.andThen_ok, List.map_toArray, List.map_cons, List.map_nil, hs, hx, hr]
  exact hK _ _ (h v' w' h2 h3 h4)
end
/-- A list's elements as pairs of values. -/
def Pairs (w : World) (B : Nat) (vals : List (Value × Value)) (bs : List Ser) : Prop :=
  vals.length = bs.length ∧ ∀ (i : Nat) (p : Value × Value) (x : Ser), vals[i]? = some p → bs[i]? = some x → LabelsAt w B p.1 x.1 ∧ SamplesAt w B p.2 x.2
theorem Pairs.nil (w : World) (B : Nat) : Pairs w B [] [] := ⟨rfl, fun i p x h => by simp at h⟩
theorem Pairs.app {w : World} {B : Nat} {vs us : List (Value × Value)} {bs cs : List Ser} (h : Pairs w B vs bs) (g : Pairs w B us cs) : Pairs w B (vs ++ us) (bs ++ cs) := by
  refine ⟨by simp [h.1, g.1], fun i p x hp hx => ?_⟩
  by_cases hi : i < vs.length
  · rw [List.getElem?_append_left hi] at hp
    rw [List.getElem?_append_left (by rw [← h.1]; exact hi)] at hx
    exact h.2 i p x hp hx
  · rw [List.getElem?_append_right (by omega)] at hp
    rw [List.getElem?_append_right (by rw [← h.1]; omega), ← h.1] at hx
    exact g.2 _ p x hp hx
theorem Pairs.one {w : World} {B : Nat} {p : Value × Value} {x : Ser} (h1 : LabelsAt w B p.1 x.1) (h2 : SamplesAt w B p.2 x.2) : Pairs w B [p] [x] := by
  refine ⟨rfl, fun i q y hq hy => ?_⟩
  match i, hq, hy with
  | 0, hq, hy => simp at hq hy; subst hq; subst hy; exact ⟨h1, h2⟩
  | i + 1, hq, _ => simp at hq
theorem Pairs.below {w w' : World} {B B' : Nat} {vs : List (Value × Value)} {bs : List Ser} (h : Pairs w B vs bs) (hb : Below B' w w') (hB : B ≤ B') : Pairs w' B vs bs :=
  ⟨h.1, fun i p x hp hx => ⟨(h.2 i p x hp hx).1.below hb hB, (h.2 i p x hp hx).2.below hb hB⟩⟩
theorem Pairs.wider {w : World} {B B' : Nat} {vs : List (Value × Value)} {bs : List Ser} (h : Pairs w B vs bs) (hB : B ≤ B') : Pairs w B' vs bs :=
  ⟨h.1, fun i p x hp hx => ⟨(h.2 i p x hp hx).1.wider hB, (h.2 i p x hp hx).2.wider hB⟩⟩
theorem Pairs.oneCell {w : World} {B : Nat} {vs : List (Value × Value)} {bs : List Ser} (h : Pairs w B vs bs) : ∀ u ∈ serCells vs, u.oneCell' = true := fun u hu => by
  obtain ⟨p, hp, hu⟩ := List.mem_flatMap.1 hu
  obtain ⟨i, hi, e⟩ := List.mem_iff_getElem.1 hp
  obtain ⟨x, hx⟩ : ∃ x, bs[i]? = some x := ⟨_, List.getElem?_eq_getElem (by rw [← h.1]; exact hi)⟩
  obtain ⟨⟨_, _, e1, _⟩, ⟨_, _, e2, _⟩⟩ := h.2 i p x (by rw [List.getElem?_eq_getElem hi, e]) hx
  rcases List.mem_cons.1 hu with rfl | hu
  · rw [e1]; rfl
  · rw [List.mem_singleton.1 hu, e2]; rfl
/-- A list in memory, as pairs. -/
theorem batchAt_pairs {w : World} {B : Nat} {a : Option Addr} {n c : Nat} {bs : List Ser} (h : BatchAt w B (.slice a n c) bs) : n = bs.length ∧ ∃ vals, Pairs w B vals bs ∧ (bs.length = 0 ∨ ∃ ad : Addr, a = some ad ∧ ad.block < B ∧ ∀ j u, (serCells vals)[j]? = some u → w.cell? (ad.add j) = some u) := by
  have hn : n = bs.length := by obtain ⟨_, _, hv, _⟩ := h; cases hv; rfl
  refine ⟨hn, ?_⟩
  have each : ∀ i, i < bs.length → ∃ p : Value × Value, ∀ x, bs[i]? = some x → LabelsAt w B p.1 x.1 ∧ SamplesAt w B p.2 x.2 ∧ ∀ b o, a = some ⟨b, o, none⟩ → w.cell? ⟨b, o + i * 2, none⟩ = some p.1 ∧ w.cell? ⟨b, o + i * 2 + 1, none⟩ = some p.2 := fun i hi => by
    obtain ⟨b, o, lv, sv, ha, _, c0, c1, h1, h2⟩ := batchGet h (List.getElem?_eq_getElem hi)
    refine ⟨(lv, sv), fun x hx => ?_⟩
    rw [List.getElem?_eq_getElem hi] at hx
    cases hx
    exact ⟨h1, h2, fun b' o' e => by rw [ha] at e; cases e; exact ⟨c0, c1⟩⟩
  obtain ⟨F, hF⟩ := Go.Deep.choose_lt each
  have hget : ∀ i p, ((List.range bs.length).map F)[i]? = some p → i < bs.length ∧ p = F i := fun i p hp => by
    have hi : i < bs.length := by have := (List.getElem?_eq_some_iff.1 hp).1; simpa using this
    rw [List.getElem?_map, List.getElem?_range hi] at hp
    exact ⟨hi, (Option.some.inj hp).symm⟩
  refine ⟨(List.range bs.length).map F, ⟨by simp, fun i p x hp hx => ?_⟩, ?_⟩
  · obtain ⟨hi, rfl⟩ := hget i p hp
    exact ⟨(hF i hi x hx).1, (hF i hi x hx).2.1⟩
  · by_cases h0 : bs.length = 0
    · exact .inl h0
    · obtain ⟨b, o, lv, sv, ha, hb, _⟩ := batchGet h (List.getElem?_eq_getElem (show 0 < bs.length by omega))
      refine .inr ⟨⟨b, o, none⟩, ha, hb, fun j u hu => ?_⟩
      rw [addr_add]
      have hj : j / 2 < bs.length := by
        have := (List.getElem?_eq_some_iff.1 hu).1
        rw [serCells_length] at this
        simp at this; omega
      have hp : ((List.range bs.length).map F)[j / 2]? = some (F (j / 2)) := by rw [List.getElem?_map, List.getElem?_range hj]; rfl
      have hs := serCells_get hp
      have hc := (hF (j / 2) hj _ (List.getElem?_eq_getElem hj)).2.2 b o ha
      rcases Nat.mod_two_eq_zero_or_one j with e | e
      · have e2 : j / 2 * 2 = j := by omega
        rw [e2] at hs hc
        rw [hs.1] at hu; cases hu; exact hc.1
      · have e2 : j / 2 * 2 + 1 = j := by omega
        rw [show o + j / 2 * 2 + 1 = o + (j / 2 * 2 + 1) by omega, e2] at hc
        rw [e2] at hs
        rw [hs.2] at hu; cases hu; exact hc.2
/-- A row of the call's own, whose pairs lie in memory. -/
theorem Pairs.batchAt {w : World} {base : Nat} {v : Value} {vals : List (Value × Value)} {bs : List Ser} (h : Pairs w w.heap.size vals bs) (h2 : w.ownsRow base 37 2 v bs.length (serCells vals)) : BatchAt w w.heap.size v bs := by
  have hlt := fun k e => (World.ownsRow.lt h2 k e).2
  rcases h2.2 with ⟨rfl, h0⟩ | ⟨g, cap, cur, rfl, hg, hh, hc, _⟩
  · exact ⟨none, 0, by rw [h0], by omega, .inl (List.eq_nil_of_length_eq_zero h0)⟩
  · refine ⟨_, cap, rfl, hc, .inr ⟨g, 0, rfl, hlt g rfl, fun i x hx => ?_⟩⟩
    obtain ⟨p, hp⟩ : ∃ p, vals[i]? = some p := ⟨_, List.getElem?_eq_getElem (by rw [h.1]; exact (List.getElem?_eq_some_iff.1 hx).1)⟩
    have := serCells_get hp
    rw [Nat.zero_add]
    exact ⟨p.1, p.2, own_cell h2 this.1, own_cell h2 this.2, h.2 i p x hp hx⟩
theorem pairs_len {w : World} {B : Nat} {vals : List (Value × Value)} {bs : List Ser} (h : Pairs w B vals bs) : (serCells vals).length = bs.length * 2 := by rw [serCells_length, h.1]; omega
end Go.Proofs.Ytcidgfdiacehmaa

/- 'choirkeep.Level', for any list of steps (100 of them are done): when all are up, nothing is under way, and each has told each other one, all have the same, and compacted logs are the same bytes. The first form's statement and its card: no condition beside the row's own. -/
import Derived.Test.YtamcclcbmenjdaaGreatDoorLevelG32
import Derived.Test.YtamcclcbmenjdaaGreatDoorLevelG5
import Derived.Test.YtamcclcbmenjdaaGreatDoorLevelG22
import Derived.Laws.OwnMore
import Derived.Test.YtamcclcbmenjdaaGreatDoorLevelG42
/- append of a whole list: 'append(out, b...)'; lists of series as rows of pairs. -/
namespace Go.Proofs.YtamcclcbmenjdaaGreatDoor
open Go.RowKit Go.Lib

section
variable {P : Program} (w : World)
theorem run_append_spread (base : Nat) (t ty e : TypeId) (i : TypeInfo) (z : Value) (size bytes : Nat) (ht : P.underlying t = some (.slice e)) (hi : P.info? e = some i) (hz : i.zero = some z)
    (hsize : i.size = size) (hby : i.bytes = bytes) (hzs : z.cells.size = size) (hsz : 0 < size)
    (v : Value) (n : Nat) (xs : List Value) (hown : w.ownsRow base e size v n xs)
    (sa : Option Addr) (m c : Nat) (news : List Value) (hl : news.length = m * size) (hsrc : m = 0 ∨ ∃ ad, sa = some ad ∧ ∀ j u, news[j]? = some u → w.cell? (ad.add j) = some u) (h1 : ∀ u ∈ news, u.oneCell' = true)
    (h63 : n + m ≤ maxLen) (hbytes : (n + m) * bytes ≤ 140737488355328) (hbase : base ≤ w.heap.size) :
    ∃ v' w', (Builtin.append_ #[t, t] ty #[v, .slice sa m c]).run P w = .ok v' w' ∧ w'.ownsRow base e size v' (n + m) (xs ++ news) ∧ w.grownBy w' v.ownBlock ∧ Heir w v v' := by
  cases sa with
  | some ad =>
    refine run_append_heir w base t ty e i z size bytes ht hi hz hsize hby hzs hsz v n xs hown ad m c news hl (fun j u hu => ?_) h1 h63 hbytes hbase
    rcases hsrc with h0 | ⟨a', ha, h⟩
    · have : news = [] := List.eq_nil_of_length_eq_zero (by rw [hl, h0]; simp)
      rw [this] at hu; cases hu
    · cases ha; exact h j u hu
  | none =>
    have h0 : m = 0 := by
      rcases hsrc with h0 | ⟨a', ha, _⟩
      · exact h0
      · cases ha
    subst h0
    have : news = [] := List.eq_nil_of_length_eq_zero (by rw [hl]; simp)
    subst this
    refine ⟨v, w, ?_, by simpa using hown, ⟨rfl, rfl, rfl, Nat.le_refl _, fun k _ _ => rfl⟩, .inl rfl⟩
    rcases hown.2 with ⟨rfl, rfl⟩ | ⟨g, cap, cur, rfl, _, _, hnc, _⟩
    · simp [Builtin.append_, run_underlying ht, sizeOf, typeInfo, hi, Builtin.lenOf, Builtin.firstCells]
    · simp [Builtin.append_, run_underlying ht, sizeOf, typeInfo, hi, Builtin.lenOf, Builtin.firstCells, hnc, storeCells]
theorem wpList_append_spread {ops : Array Oper} {rest : List Oper} {o : Oper} {a : Act} {Q : Exit → Act → World → Prop} (hgd : o.guard = none) (s x : Operand) (t : TypeId)
    (ho : o.op = .call { callee := .builtin .append, args := #[s, x], argTypes := #[t, t] })
    (base : Nat) (e : TypeId) (i : TypeInfo) (z : Value) (size bytes : Nat) (ht : P.underlying t = some (.slice e)) (hi : P.info? e = some i) (hz : i.zero = some z)
    (hsize : i.size = size) (hby : i.bytes = bytes) (hzs : z.cells.size = size) (hsz : 0 < size)
    (v : Value) (n : Nat) (xs : List Value) (hs : a.eval s = v) (hown : w.ownsRow base e size v n xs)
    (sa : Option Addr) (m c : Nat) (news : List Value) (hx : a.eval x = .slice sa m c) (hl : news.length = m * size) (hsrc : m = 0 ∨ ∃ ad, sa = some ad ∧ ∀ j u, news[j]? = some u → w.cell? (ad.add j) = some u) (h1 : ∀ u ∈ news, u.oneCell' = true)
    (h63 : n + m ≤ maxLen) (hbytes : (n + m) * bytes ≤ 140737488355328) (hbase : base ≤ w.heap.size)
    (h : ∀ v' w', w'.ownsRow base e size v' (n + m) (xs ++ news) → w.grownBy w' v.ownBlock → Heir w v v' → wpList P ops Q rest (a.put o.dst v') w') : wpList P ops Q (o :: rest) a w := by
  refine wpList_plain hgd fun K hK => ?_
  obtain ⟨v', w', hr, h2, h3, h4⟩ := run_append_spread (P := P) w base t o.type e i z size bytes ht hi hz hsize hby hzs hsz v n xs hown sa m c news hl hsrc h1 h63 hbytes hbase
  unfold Oper.wp execOp
  simp only [ho, resolve, invoke, builtin, Sem.run_bind, Sem.run_pure, Result.andThen_ok, List.map_toArray, List.map_cons, List.map_nil, hs, hx, hr]
  exact hK _ _ (h v' w' h2 h3 h4)
end
/-- A list's elements as pairs of values. -/
def Pairs (w : World) (B : Nat) (vals : List (Value × Value)) (bs : List Ser) : Prop :=
  vals.length = bs.length ∧ ∀ (i : Nat) (p : Value × Value) (x : Ser), vals[i]? = some p → bs[i]? = some x → LabelsAt w B p.1 x.1 ∧ SamplesAt w B p.2 x.2
theorem Pairs.nil (w : World) (B : Nat) : Pairs w B [] [] := ⟨rfl, fun i p x h => by simp at h⟩
theorem Pairs.app {w : World} {B : Nat} {vs us : List (Value × Value)} {bs cs : List Ser} (h : Pairs w B vs bs) (g : Pairs w B us cs) : Pairs w B (vs ++ us) (bs ++ cs) := by
  refine ⟨by simp [h.1, g.1], fun i p x hp hx => ?_⟩
  by_cases hi : i < vs.length
  · rw [List.getElem?_append_left hi] at hp
    rw [List.getElem?_append_left (by rw [← h.1]; exact hi)] at hx
    exact h.2 i p x hp hx
  · rw [List.getElem?_append_right (by omega)] at hp
    rw [List.getElem?_append_right (by rw [← h.1]; omega), ← h.1] at hx
    exact g.2 _ p x hp hx
theorem Pairs.one {w : World} {B : Nat} {p : Value × Value} {x : Ser} (h1 : LabelsAt w B p.1 x.1) (h2 : SamplesAt w B p.2 x.2) : Pairs w B [p] [x] := by
  refine ⟨rfl, fun i q y hq hy => ?_⟩
  match i, hq, hy with
  | 0, hq, hy => simp at hq hy; subst hq; subst hy; exact ⟨h1, h2⟩
  | i + 1, hq, _ => simp at hq
theorem Pairs.below {w w' : World} {B B' : Nat} {vs : List (Value × Value)} {bs : List Ser} (h : Pairs w B vs bs) (hb : Below B' w w') (hB : B ≤ B') : Pairs w' B vs bs :=
  ⟨h.1, fun i p x hp hx => ⟨(h.2 i p x hp hx).1.below hb hB, (h.2 i p x hp hx).2.below hb hB⟩⟩
theorem Pairs.wider {w : World} {B B' : Nat} {vs : List (Value × Value)} {bs : List Ser} (h : Pairs w B vs bs) (hB : B ≤ B') : Pairs w B' vs bs :=
  ⟨h.1, fun i p x hp hx => ⟨(h.2 i p x hp hx).1.wider hB, (h.2 i p x hp hx).2.wider hB⟩⟩
theorem Pairs.oneCell {w : World} {B : Nat} {vs : List (Value × Value)} {bs : List Ser} (h : Pairs w B vs bs) : ∀ u ∈ serCells vs, u.oneCell' = true := fun u hu => by
  obtain ⟨p, hp, hu⟩ := List.mem_flatMap.1 hu
  obtain ⟨i, hi, e⟩ := List.mem_iff_getElem.1 hp
  obtain ⟨x, hx⟩ : ∃ x, bs[i]? = some x := ⟨_, List.getElem?_eq_getElem (by rw [← h.1]; exact hi)⟩
  obtain ⟨⟨_, _, e1, _⟩, ⟨_, _, e2, _⟩⟩ := h.2 i p x (by rw [List.getElem?_eq_getElem hi, e]) hx
  rcases List.mem_cons.1 hu with rfl | hu
  · rw [e1]; rfl
  · rw [List.mem_singleton.1 hu, e2]; rfl
/-- A list in memory, as pairs. -/
theorem batchAt_pairs {w : World} {B : Nat} {a : Option Addr} {n c : Nat} {bs : List Ser} (h : BatchAt w B (.slice a n c) bs) : n = bs.length ∧ ∃ vals, Pairs w B vals bs ∧ (bs.length = 0 ∨ ∃ ad : Addr, a = some ad ∧ ad.block < B ∧ ∀ j u, (serCells vals)[j]? = some u → w.cell? (ad.add j) = some u) := by
  have hn : n = bs.length := by obtain ⟨_, _, hv, _⟩ := h; cases hv; rfl
  refine ⟨hn, ?_⟩
  have each : ∀ i, i < bs.length → ∃ p : Value × Value, ∀ x, bs[i]? = some x → LabelsAt w B p.1 x.1 ∧ SamplesAt w B p.2 x.2 ∧ ∀ b o, a = some ⟨b, o, none⟩ → w.cell? ⟨b, o + i * 2, none⟩ = some p.1 ∧ w.cell? ⟨b, o + i * 2 + 1, none⟩ = some p.2 := fun i hi => by
    obtain ⟨b, o, lv, sv, ha, _, c0, c1, h1, h2⟩ := batchGet h (List.getElem?_eq_getElem hi)
    refine ⟨(lv, sv), fun x hx => ?_⟩
    rw [List.getElem?_eq_getElem hi] at hx
    cases hx
    exact ⟨h1, h2, fun b' o' e => by rw [ha] at e; cases e; exact ⟨c0, c1⟩⟩
  obtain ⟨F, hF⟩ := Go.Deep.choose_lt each
  have hget : ∀ i p, ((List.range bs.length).map F)[i]? = some p → i < bs.length ∧ p = F i := fun i p hp => by
    have hi : i < bs.length := by have := (List.getElem?_eq_some_iff.1 hp).1; simpa using this
    rw [List.getElem?_map, List.getElem?_range hi] at hp
    exact ⟨hi, (Option.some.inj hp).symm⟩
  refine ⟨(List.range bs.length).map F, ⟨by simp, fun i p x hp hx => ?_⟩, ?_⟩
  · obtain ⟨hi, rfl⟩ := hget i p hp
    exact ⟨(hF i hi x hx).1, (hF i hi x hx).2.1⟩
  · by_cases h0 : bs.length = 0
    · exact .inl h0
    · obtain ⟨b, o, lv, sv, ha, hb, _⟩ := batchGet h (List.getElem?_eq_getElem (show 0 < bs.length by omega))
      refine .inr ⟨⟨b, o, none⟩, ha, hb, fun j u hu => ?_⟩
      rw [addr_add]
      have hj : j / 2 < bs.length := by
        have := (List.getElem?_eq_some_iff.1 hu).1
        rw [serCells_length] at this
        simp at this; omega
      have hp : ((List.range bs.length).map F)[j / 2]? = some (F (j / 2)) := by rw [List.getElem?_map, List.getElem?_range hj]; rfl
      have hs := serCells_get hp
      have hc := (hF (j / 2) hj _ (List.getElem?_eq_getElem hj)).2.2 b o ha
      rcases Nat.mod_two_eq_zero_or_one j with e | e
      · have e2 : j / 2 * 2 = j := by omega
        rw [e2] at hs hc
        rw [hs.1] at hu; cases hu; exact hc.1
      · have e2 : j / 2 * 2 + 1 = j := by omega
        rw [show o + j / 2 * 2 + 1 = o + (j / 2 * 2 + 1) by omega, e2] at hc
        rw [e2] at hs
        rw [hs.2] at hu; cases hu; exact hc.2
/-- A row of the call's own, whose pairs lie in memory. -/
theorem Pairs.batchAt {w : World} {base : Nat} {v : Value} {vals : List (Value × Value)} {bs : List Ser} (h : Pairs w w.heap.size vals bs) (h2 : w.ownsRow base 38 2 v bs.length (serCells vals)) : BatchAt w w.heap.size v bs := by
  have hlt := fun k e => (World.ownsRow.lt h2 k e).2
  rcases h2.2 with ⟨rfl, h0⟩ | ⟨g, cap, cur, rfl, hg, hh, hc, _⟩
  · exact ⟨none, 0, by rw [h0], by omega, .inl (List.eq_nil_of_length_eq_zero h0)⟩
  · refine ⟨_, cap, rfl, hc, .inr ⟨g, 0, rfl, hlt g rfl, fun i x hx => ?_⟩⟩
    obtain ⟨p, hp⟩ : ∃ p, vals[i]? = some p := ⟨_, List.getElem?_eq_getElem (by rw [h.1]; exact (List.getElem?_eq_some_iff.1 hx).1)⟩
    have := serCells_get hp
    rw [Nat.zero_add]
    exact ⟨p.1, p.2, own_cell h2 this.1, own_cell h2 this.2, h.2 i p x hp hx⟩
theorem pairs_len {w : World} {B : Nat} {vals : List (Value × Value)} {bs : List Ser} (h : Pairs w B vals bs) : (serCells vals).length = bs.length * 2 := by rw [serCells_length, h.1]; omega
end Go.Proofs.YtamcclcbmenjdaaGreatDoor

/- Sound's memory: what reads as before while some blocks turn. -/
namespace Go.Proofs.YtamcclcbmenjdaaGreatDoor
open Go.RowKit Go.Lib

/-- But for the blocks of K nothing that was there has turned. -/
structure Stay (K : List Nat) (w w' : World) : Prop where
  size : w.heap.size ≤ w'.heap.size
  block : ∀ k, k < w.heap.size → k ∉ K → w'.heap[k]? = w.heap[k]?
theorem Stay.refl (K : List Nat) (w : World) : Stay K w w := ⟨Nat.le_refl _, fun _ _ _ => rfl⟩
theorem Stay.trans {K K' : List Nat} {w w1 w2 : World} (h : Stay K w w1) (g : Stay K' w1 w2) (hk : ∀ k ∈ K', k ∈ K ∨ w.heap.size ≤ k) : Stay K w w2 :=
  ⟨Nat.le_trans h.size g.size, fun k h1 h2 => (g.block k (Nat.lt_of_lt_of_le h1 h.size) (fun hm => (hk k hm).elim h2 (fun h3 => by omega))).trans (h.block k h1 h2)⟩
theorem Stay.below {K : List Nat} {w w' : World} (h : Below w.heap.size w w') : Stay K w w' := ⟨h.size, fun k hk _ => h.block k hk⟩
theorem Stay.turn {K : List Nat} {w w' : World} {cb lo hi : Nat} (h : Turn w w' cb lo hi) (hc : cb ∈ K) : Stay K w w' := ⟨h.size, fun k hk hn => h.block k hk (fun e => hn (e ▸ hc))⟩
theorem Stay.set {K : List Nat} (w : World) (b i : Nat) (v : Value) (hb : b ∈ K) : Stay K w (w.setCell ⟨b, i, none⟩ v) := ⟨by simp, fun k _ hn => Below.heap_setCell w ⟨b, i, none⟩ v k (fun e => hn (e ▸ hb))⟩
theorem Stay.grown {K : List Nat} {w w' : World} {v : Value} (h : w.grownBy w' v.ownBlock) (hv : ∀ k, v.ownBlock = some k → k ∈ K) : Stay K w w' := ⟨h.size, fun k hk hn => h.block k hk (fun e => hn (hv k e.symm))⟩
theorem Stay.tabs {K : List Nat} {w w' : World} (h : Stay K w w') (hT : Tabs w) (hK : ∀ k ∈ K, 2 < k) : Tabs w' := by
  have hlt := hT.lt
  exact hT.kept (h.block _ (by omega) (fun hm => by have := hK _ hm; omega)) (h.block _ (by omega) (fun hm => by have := hK _ hm; omega))
/-- A batch that reads so as long as none but the blocks of K turns. -/
def SafeK (K : List Nat) (w : World) (v : Value) (bs : List Ser) : Prop := ∀ w', Stay K w w' → BatchAt w' w'.heap.size v bs
theorem SafeK.here {K : List Nat} {w : World} {v : Value} {bs : List Ser} (h : SafeK K w v bs) : BatchAt w w.heap.size v bs := h w (Stay.refl _ _)
theorem SafeK.step {K K' : List Nat} {w w' : World} {v : Value} {bs : List Ser} (h : SafeK K w v bs) (g : Stay K w w') (hk : ∀ k ∈ K', k ∈ K ∨ w.heap.size ≤ k) : SafeK K' w' v bs := fun w2 h2 => h w2 (g.trans h2 hk)
theorem SafeK.nil (K : List Nat) (w : World) : SafeK K w (.slice none 0 0) [] := fun _ _ => ⟨none, 0, rfl, Nat.le_refl _, .inl rfl⟩
theorem FreshB.safe {K : List Nat} {w : World} {base : Nat} {v : Value} {bs : List Ser} (h : FreshB w base v bs) (hk : ∀ k ∈ K, k < base ∨ w.heap.size ≤ k) : SafeK K w v bs :=
  fun w' hs => h.2 w' hs.size fun k h1 h2 => hs.block k h2 (fun hm => by have := hk k hm; omega)
theorem fresh_safek {K : List Nat} {w : World} {base : Nat} {v : Value} {bs : List Ser} (h : Fresh w base v bs) (hr : InRange bs) (hk : ∀ k ∈ K, k < base ∨ w.heap.size ≤ k) : SafeK K w v bs := fun w' hs => by
  obtain ⟨vals, ho, hv⟩ := h
  have hb : ∀ k, base ≤ k → k < w.heap.size → w'.heap[k]? = w.heap[k]? := fun k h1 h2 => hs.block k h2 (fun hm => by have := hk k hm; omega)
  exact Fresh.batchAt (base := base) ⟨vals, own_kept ho fun k e => hb k (World.ownsRow.lt ho k e).1 (World.ownsRow.lt ho k e).2, hv.kept hb⟩ hr
def SafeP (K : List Nat) (w : World) (p : Value × Value) (x : Ser) : Prop := ∀ w', Stay K w w' → LabelsAt w' w'.heap.size p.1 x.1 ∧ SamplesAt w' w'.heap.size p.2 x.2
theorem SafeP.step {K K' : List Nat} {w w' : World} {p : Value × Value} {x : Ser} (h : SafeP K w p x) (g : Stay K w w') (hk : ∀ k ∈ K', k ∈ K ∨ w.heap.size ≤ k) : SafeP K' w' p x := fun w2 h2 => h w2 (g.trans h2 hk)
/-- A list of series in a row of the call's own; the row's block is one of K. -/
def AllOf (K : List Nat) (w : World) (base : Nat) (v : Value) (A : List Ser) : Prop :=
  ∃ vals : List (Value × Value), vals.length = A.length ∧ w.ownsRow base 38 2 v A.length (serCells vals) ∧ (∀ k, v.ownBlock = some k → k ∈ K) ∧ ∀ (i : Nat) (p : Value × Value) (x : Ser), vals[i]? = some p → A[i]? = some x → SafeP K w p x
theorem AllOf.batchAt {K : List Nat} {w : World} {base : Nat} {v : Value} {A : List Ser} (h : AllOf K w base v A) : BatchAt w w.heap.size v A := by
  obtain ⟨vals, hl, ho, _, hp⟩ := h
  exact Pairs.batchAt ⟨hl, fun i p x h1 h2 => hp i p x h1 h2 w (Stay.refl _ _)⟩ ho
theorem AllOf.step {K : List Nat} {w w' : World} {base : Nat} {v : Value} {A : List Ser} (h : AllOf K w base v A) (g : Stay K w w') (hr : ∀ k, v.ownBlock = some k → w'.heap[k]? = w.heap[k]?) : AllOf K w' base v A := by
  obtain ⟨vals, hl, ho, hk, hp⟩ := h
  exact ⟨vals, hl, own_kept ho hr, hk, fun i p x h1 h2 => (hp i p x h1 h2).step g fun k hk => .inl hk⟩
theorem AllOf.lt {K : List Nat} {w : World} {base : Nat} {v : Value} {A : List Ser} (h : AllOf K w base v A) : ∀ k, v.ownBlock = some k → base ≤ k ∧ k < w.heap.size := by
  obtain ⟨vals, hl, ho, hk, hp⟩ := h
  exact fun k e => World.ownsRow.lt ho k e
theorem safe_pairs {K : List Nat} {w : World} {a : Option Addr} {n c : Nat} {b : List Ser} (h : SafeK K w (.slice a n c) b) (ho : ∀ k, (Value.slice a n c).ownBlock = some k → k ∉ K) :
    n = b.length ∧ ∃ vals : List (Value × Value), Pairs w w.heap.size vals b ∧ (b.length = 0 ∨ ∃ ad : Addr, a = some ad ∧ ∀ j u, (serCells vals)[j]? = some u → w.cell? (ad.add j) = some u) ∧ ∀ (i : Nat) (p : Value × Value) (x : Ser), vals[i]? = some p → b[i]? = some x → SafeP K w p x := by
  obtain ⟨hn, vals, hp, hc⟩ := batchAt_pairs h.here
  refine ⟨hn, vals, hp, hc.imp id fun ⟨ad, h1, _, h2⟩ => ⟨ad, h1, h2⟩, fun i p x hi hx w' hs => ?_⟩
  obtain ⟨b1, o1, la, lc, sa, sc, rfl, hb1, p1, p2, L1, S1⟩ := (h w' hs).get hx
  rcases hc with h0 | ⟨ad, e1, hlt, h2⟩
  · have := (List.getElem?_eq_some_iff.1 hx).1; omega
  · cases e1
    have hblk : w'.heap[b1]? = w.heap[b1]? := hs.block b1 hlt (ho b1 rfl)
    have hg := serCells_get hi
    have c1 := h2 _ _ hg.1
    have c2 := h2 _ _ hg.2
    rw [addr_add] at c1 c2
    have d1 := (World.cell?_of_block (a := ⟨b1, o1 + i * 2, none⟩) hblk).trans c1
    have d2 := (World.cell?_of_block (a := ⟨b1, o1 + (i * 2 + 1), none⟩) hblk).trans c2
    rw [p1] at d1
    rw [show o1 + (i * 2 + 1) = o1 + i * 2 + 1 by omega, p2] at d2
    rw [← Option.some.inj d1, ← Option.some.inj d2]
    exact ⟨L1, S1⟩
theorem AllOf.app {K K' : List Nat} {w w' : World} {base : Nat} {v v' : Value} {A b : List Ser} {vals us : List (Value × Value)} (hl : vals.length = A.length) (hk : ∀ k, v.ownBlock = some k → k ∈ K) (hp : ∀ (i : Nat) (p : Value × Value) (x : Ser), vals[i]? = some p → A[i]? = some x → SafeP K w p x)
    (hu : Pairs w w.heap.size us b) (hq : ∀ (i : Nat) (p : Value × Value) (x : Ser), us[i]? = some p → b[i]? = some x → SafeP K w p x)
    (ho : w'.ownsRow base 38 2 v' (A.length + b.length) (serCells vals ++ serCells us)) (hg : w.grownBy w' v.ownBlock) (hK : ∀ k ∈ K', k ∈ K ∨ w.heap.size ≤ k) (hk' : ∀ k, v'.ownBlock = some k → k ∈ K') : AllOf K' w' base v' (A ++ b) := by
  have hst : Stay K w w' := Stay.grown hg hk
  refine ⟨vals ++ us, by simp [hl, hu.1], by rw [List.length_append, serCells_app]; exact ho, hk', fun i p x h1 h2 => ?_⟩
  by_cases hi : i < vals.length
  · rw [List.getElem?_append_left hi] at h1
    rw [List.getElem?_append_left (by rw [← hl]; exact hi)] at h2
    exact (hp i p x h1 h2).step hst hK
  · rw [List.getElem?_append_right (by omega)] at h1
    rw [List.getElem?_append_right (by rw [← hl]; omega), ← hl] at h2
    exact (hq _ p x h1 h2).step hst hK
/-- A block of cells that none of a replica's lists can be. -/
def Alien (w : World) (k : Nat) : Prop := ∀ cur e f, w.heap[k]? = some (.cells cur e f) → e ≠ 80 ∧ e ≠ 34 ∧ e ≠ 182
/-- None of the lists of the cluster at cb lies in K. -/
def Apart (w : World) (cb : Nat) (K : List Nat) : Prop := ∀ j v k, j < 3 → w.cell? ⟨cb, j * 5 + 1, none⟩ = some v → v.ownBlock = some k → k ∉ K
theorem Apart.turn {w w' : World} {cb lo hi : Nat} {K : List Nat} (h : Apart w cb K) (ht : Turn w w' cb lo hi) (hK : ∀ k ∈ K, k < w.heap.size) : Apart w' cb K := fun i v k hi hc hk hm => by
  rcases ht.heir _ v k hc hk with h1 | h1
  · have := hK k hm; omega
  · exact h i v k hi h1 hk hm
theorem Apart.kept {w w' : World} {cb : Nat} {K : List Nat} (h : Apart w cb K) (hb : w'.heap[cb]? = w.heap[cb]?) : Apart w' cb K := fun i v k hi hc hk => h i v k hi ((World.cell?_of_block (a := ⟨cb, i * 5 + 1, none⟩) hb).symm.trans hc) hk
theorem own_alien {w w' : World} {base e n : Nat} {v : Value} {xs : List Value} {K : List Nat} (h : w.ownsRow base e 2 v n xs) (hs : Stay K w w') (ha : ∀ k ∈ K, Alien w k) (he : e = 80 ∨ e = 34) : w'.ownsRow base e 2 v n xs :=
  own_kept h fun k ek => hs.block k (World.ownsRow.lt h k ek).2 fun hm => by
    rcases h.2 with ⟨rfl, _⟩ | ⟨g, cap, cur, rfl, _, hg, _⟩
    · cases ek
    · cases ek
      have h1 := ha _ hm _ _ _ hg
      rcases he with rfl | rfl
      · exact h1.1 rfl
      · exact h1.2.1 rfl
theorem LogAt.stay {w w' : World} {cb : Nat} {K : List Nat} (hs : Stay K w w') (ha : ∀ k ∈ K, Alien w k) : ∀ {l : List ByteArray} {v : Value}, LogAt w cb l v → LogAt w' cb l v
  | [], _, h => h
  | _ :: _, _, ⟨g, p, hv, hg, hb, hr⟩ => ⟨g, p, hv, hg, Blk.kept hb (hs.block g (Blk.lt hb) fun hm => (ha g hm _ _ _ hb).2.2 rfl), LogAt.stay hs ha hr⟩
theorem CluAt.stay {w w' : World} {cb : Nat} {K : List Nat} {S : CS} (h : CluAt w cb S) (hs : Stay K w w') (hc : cb ∉ K) (ha : ∀ k ∈ K, Alien w k) (hp : Apart w cb K) : CluAt w' cb S := by
  have hb : w'.heap[cb]? = w.heap[cb]? := hs.block cb h.way.lt hc
  have cl : ∀ {i : Nat} {v : Value}, w.cell? ⟨cb, i, none⟩ = some v → w'.cell? ⟨cb, i, none⟩ = some v := fun {i _} e => (World.cell?_of_block (a := ⟨cb, i, none⟩) hb).trans e
  have fz : ∀ i, w'.frozen? ⟨cb, i, none⟩ = w.frozen? ⟨cb, i, none⟩ := fun i => World.frozen?_of_block (a := ⟨cb, i, none⟩) hb
  refine ⟨fun k hk => ?_, ⟨h.way.n, cl h.way.cnt, fun i hi => ⟨cl (h.way.msg i hi).c0, cl (h.way.msg i hi).c1, cl (h.way.msg i hi).c2, cl (h.way.msg i hi).c3⟩, fun j h1 h2 => ?_, fun i => (fz i).trans (h.way.fr i)⟩⟩
  · obtain ⟨sv, lp, hr⟩ := h.rep k hk
    refine ⟨sv, lp, cl hr.c0, cl hr.c1, cl hr.c2, cl hr.c3, cl hr.c4, fun i => (fz i).trans (hr.fr i), ?_, hr.log.stay hs ha⟩
    obtain ⟨vals, ho, hv⟩ := hr.ser
    exact ⟨vals, own_kept ho fun q e => hs.block q (World.ownsRow.lt ho q e).2 (hp k _ q hk hr.c1 e), hv.1, fun i p x h1 h2 => ⟨own_alien (hv.2 i p x h1 h2).1 hs ha (.inl rfl), own_alien (hv.2 i p x h1 h2).2 hs ha (.inr rfl)⟩⟩
  · obtain ⟨v, hv⟩ := h.way.there j h1 h2
    exact ⟨v, cl hv⟩
theorem CluAt.lt1 {w : World} {cb : Nat} {S : CS} (h : CluAt w cb S) {j k : Nat} {v : Value} (hj : j < 3) (hc : w.cell? ⟨cb, j * 5 + 1, none⟩ = some v) (hk : v.ownBlock = some k) : k < w.heap.size := by
  obtain ⟨sv, lp, hr⟩ := h.rep j hj
  rw [hr.c1] at hc
  cases hc
  obtain ⟨vals, ho, _⟩ := hr.ser
  exact (World.ownsRow.lt ho k hk).2
end Go.Proofs.YtamcclcbmenjdaaGreatDoor

/- choirkeep's begun: a cluster at work, and the batch that was written. -/
namespace Go.Proofs.YtamcclcbmenjdaaGreatDoor
open Go.RowKit Go.Lib

theorem beg_sam {w : World} {g : Nat} (h : Blk w g 34 [.int .i64 1, .int .u64 2]) : SamplesAt w w.heap.size (.slice (some ⟨g, 0, none⟩) 1 1) [(1, 2)] :=
  ⟨_, 1, rfl, Nat.le_refl _, fun x hx => by rw [List.mem_singleton.1 hx]; simp, .inr ⟨g, 0, rfl, h.lt, fun i x hx => by
    match i, hx with
    | 0, hx =>
      have : x = (1, 2) := by simpa using hx.symm
      subst this
      exact ⟨h.cell (i := 0) rfl, h.cell (i := 1) rfl⟩
    | i + 1, hx => simp at hx⟩⟩
theorem lab_nil (w : World) (B : Nat) : LabelsAt w B (.slice none 0 0) [] := ⟨none, 0, rfl, Nat.le_refl _, .inl rfl⟩
theorem beg_batch {w : World} {g h : Nat} (h1 : Blk w g 34 [.int .i64 1, .int .u64 2]) (h2 : Blk w h 38 [.slice none 0 0, .slice (some ⟨g, 0, none⟩) 1 1]) : BatchAt w w.heap.size (.slice (some ⟨h, 0, none⟩) 1 1) b0 :=
  ⟨_, 1, rfl, Nat.le_refl _, .inr ⟨h, 0, rfl, h2.lt, fun i x hx => by
    match i, hx with
    | 0, hx =>
      have : x = ([], [(1, 2)]) := by simpa [b0] using hx.symm
      subst this
      exact ⟨_, _, h2.cell (i := 0) rfl, h2.cell (i := 1) rfl, lab_nil _ _, beg_sam h1⟩
    | i + 1, hx => simp [b0] at hx⟩⟩
theorem newZ_none : ∀ v ∈ newZ, v.ownBlock = none := by
  have hr : ∀ v ∈ repZ, v.ownBlock = none := fun v hv => by
    simp only [repZ, List.mem_cons, List.not_mem_nil, or_false] at hv
    rcases hv with rfl | rfl | rfl | rfl | rfl <;> rfl
  intro v hv
  unfold newZ at hv
  simp only [List.mem_append, List.mem_singleton] at hv
  rcases hv with (((h | h) | h) | h) | h
  · exact hr v h
  · exact hr v h
  · exact hr v h
  · exact flatM_none v h
  · rw [h]; rfl
theorem Blk.mem {w : World} {g T : Nat} {xs : List Value} (h : Blk w g T xs) {i : Nat} {v : Value} (hc : w.cell? ⟨g, i, none⟩ = some v) : v ∈ xs := by
  unfold Blk at h
  simp only [World.cell?, h] at hc
  have h2 : xs[i]? = some v := by simpa using hc
  exact List.mem_of_getElem? h2
theorem apart_new {w : World} {cb T : Nat} {K : List Nat} (h : Blk w cb T newZ) : Apart w cb K := fun i v k _ hc hk => by
  rw [newZ_none v (h.mem hc)] at hk; cases hk
/-- What begun leaves. -/
structure BegEnd (W w' : World) (e : Ending) : Prop where
  ans : e = .returned (.tuple #[.pointer (some ⟨W.heap.size, 0, none⟩), .slice (some ⟨W.heap.size + 2, 0, none⟩) 1 1])
  clu : CluAt w' W.heap.size Sb3
  sam : Blk w' (W.heap.size + 1) 34 [.int .i64 1, .int .u64 2]
  ser : Blk w' (W.heap.size + 2) 38 [.slice none 0 0, .slice (some ⟨W.heap.size + 1, 0, none⟩) 1 1]
  apart : Apart w' W.heap.size [W.heap.size + 2]
  below : Below W.heap.size W w'
  tabs : Tabs w'
theorem BegEnd.all {W w' : World} {e : Ending} (h : BegEnd W w' e) {K : List Nat} (h1 : W.heap.size + 2 ∈ K) (h2 : W.heap.size + 1 ∉ K) : AllOf K w' (W.heap.size + 1) (.slice (some ⟨W.heap.size + 2, 0, none⟩) 1 1) b0 := by
  refine ⟨[(.slice none 0 0, .slice (some ⟨W.heap.size + 1, 0, none⟩) 1 1)], rfl, ⟨rfl, .inr ⟨_, 1, _, rfl, by omega, h.ser, Nat.le_refl _, by decide, rfl, rfl⟩⟩, fun k e => by cases e; exact h1, fun i p x hp hx w2 hs => ?_⟩
  match i, hp, hx with
  | 0, hp, hx =>
    have e1 : p = (.slice none 0 0, .slice (some ⟨W.heap.size + 1, 0, none⟩) 1 1) := by simpa using hp.symm
    have e2 : x = ([], [(1, 2)]) := by simpa [b0] using hx.symm
    subst e1; subst e2
    exact ⟨lab_nil _ _, beg_sam (Blk.kept h.sam (hs.block _ h.sam.lt h2))⟩
  | i + 1, hp, _ => simp at hp
set_option maxRecDepth 100000 in
set_option maxHeartbeats 1000000 in
theorem begun_any (W : World) (hT : Tabs W) :
    Calls Tryz.prog 17 #[] W fun e w' => BegEnd W w' e := by
  have hlt := hT.lt
  have C1 := hide (new_any W)
  have HT := hide hT
  clear hT
  go_enter Tryz.func17, Tryz.ntmps17
  go_wp2_with fail
  refine C1.out.mono ?_
  rintro e w1 ⟨rfl, rfl⟩
  clear C1
  obtain ⟨w3, hw3⟩ : ∃ w3, w3 = ((W.alloc (.cells newZ.toArray 126)).alloc (.cells #[.int .i64 1, .int .u64 2] 34)).alloc (.cells #[.slice none 0 0, .slice (some ⟨W.heap.size + 1, 0, none⟩) 1 1] 38) := ⟨_, rfl⟩
  have hs3 : w3.heap.size = W.heap.size + 3 := by rw [hw3]; simp
  have hb1 : Blk w3 W.heap.size 126 newZ := by
    rw [hw3]
    exact (heap_alloc_old _ _ (by simp; omega)).trans ((heap_alloc_old _ _ (by simp)).trans (heap_alloc_new _ _))
  have hb2 : Blk w3 (W.heap.size + 1) 34 [.int .i64 1, .int .u64 2] := by
    rw [hw3]
    have e : W.heap.size + 1 = (W.alloc (.cells newZ.toArray 126)).heap.size := by simp
    refine (heap_alloc_old _ _ (by simp)).trans ?_
    rw [e]
    exact heap_alloc_new _ _
  have hb3 : Blk w3 (W.heap.size + 2) 38 [.slice none 0 0, .slice (some ⟨W.heap.size + 1, 0, none⟩) 1 1] := by
    rw [hw3]
    have e : W.heap.size + 2 = ((W.alloc (.cells newZ.toArray 126)).alloc (.cells #[.int .i64 1, .int .u64 2] 34)).heap.size := by simp
    rw [e]
    exact heap_alloc_new _ _
  have HB3 : Hid (Below W.heap.size W w3) := by
    rw [hw3]
    exact (((Below.refl W.heap.size W).alloc (Nat.le_refl _) _).alloc (by simp) _).alloc (by simp; omega) _
  have HC3 := hide (clu_new hb1)
  have HAp := hide (apart_new (K := [W.heap.size + 2]) hb1)
  have HB2 := hide hb2
  have HB3' := hide hb3
  have HT3 := hide (HT.out.below HB3.out (by omega))
  have HW3 := hide hw3
  have HTb := hide HT3.out
  obtain ⟨sv, lp, hr0⟩ := HC3.out.rep 0 (by omega)
  have hsf : SafeB w3 W.heap.size (.slice (some ⟨W.heap.size + 2, 0, none⟩) 1 1) b0 := fun w' h1 h2 => beg_batch (Blk.kept hb2 (h2 _ (by omega) (by omega))) (Blk.kept hb3 (h2 _ (by omega) (by omega)))
  have C2 : Hid (Calls Tryz.prog 54 #[.pointer (some ⟨W.heap.size, 0, none⟩), .int .i64 0, .slice (some ⟨W.heap.size + 2, 0, none⟩) 1 1] w3 fun e w' => CWEnd w3 w' W.heap.size 0 r0 b0 e) := hide (cWrite_any w3 W.heap.size 0 0 (by omega) r0 sv lp _ b0 hr0 (ok_S0.rep 0 (by omega)) (by omega) hsf (small_of_limits b0_lim) b0_rng HT3.out (by omega))
  clear hb1 hb2 hb3 hw3 hr0 hsf HT
  go_wp2_with fail
  rw [← HW3.out]
  refine C2.out.mono ?_
  rintro e w4 ⟨n, r', sv', lp', rfl, hw, h1, t1⟩
  obtain ⟨rfl, rfl⟩ : n = 0 ∧ r' = r1 := by
    rcases hw with ⟨h, _⟩ | ⟨_, h⟩
    · cases h
    · exact beg_write h
  have HC4 : Hid (CluAt w4 W.heap.size Sb1) := HC3.out.rep1 (k := 0) (by omega) h1 t1
  have HTn4 : Hid (Turn w3 w4 W.heap.size 0 136) := t1.wider (Nat.le_refl _) (by omega)
  have hs4 := t1.size
  have HT4 : Hid (Tabs w4) := HT3.out.kept (t1.block _ (by omega) (by omega)) (t1.block _ (by omega) (by omega))
  obtain ⟨sv4, lp4, hr4⟩ := HC4.out.rep 0 (by omega)
  have C3 : Hid (Calls Tryz.prog 30 #[.pointer (some ⟨W.heap.size, 0, none⟩), .int .i64 0, .int .i64 1] w4 fun e w' => PushEnd w4 w' W.heap.size 0 1 r1 [] e) := hide (cPush_any w4 W.heap.size 0 1 60011 (by omega) (by omega) (by omega) r1 sv4 lp4 [] hr4 (ok_b1.rep 0 (by omega)) HC4.out.way HT4.out)
  clear hw h1 t1 hr4 C2 HT3 HC3
  go_wp2_with fail
  refine C3.out.mono ?_
  rintro e w5 ⟨ms', rfl, hms, hw5, t5⟩
  obtain rfl : ms' = [⟨0, 1, frB b0, 0⟩] := hms
  have HC5 : Hid (CluAt w5 W.heap.size Sb2) := HC4.out.way1 hw5 t5
  have HTn5 : Hid (Turn w3 w5 W.heap.size 0 136) := HTn4.out.trans (t5.wider (by omega) (Nat.le_refl _))
  have hs5 := t5.size
  have HT5 : Hid (Tabs w5) := HT4.out.kept (t5.block _ (by omega) (by omega)) (t5.block _ (by omega) (by omega))
  have C4 := hide (cDeliver_any w5 W.heap.size 120022 0 Sb2 HC5.out ok_b2 (by omega) HT5.out (by omega))
  clear hw5 t5 C3 HT4 HC4 HTn4
  go_wp2_with fail
  refine C4.out.mono ?_
  rintro e w6 ⟨n, S', rfl, hd, hc6, t6⟩
  obtain ⟨rfl, rfl⟩ := beg_deliver hd
  have HC6 := hide hc6
  have HTn6 := hide (HTn5.out.trans t6)
  have hs6 := t6.size
  obtain ⟨sv6, lp6, hr6⟩ := hc6.rep 1 (by omega)
  have C5 : Hid (Calls Tryz.prog 19 #[.pointer (some ⟨W.heap.size, 0, none⟩), .int .i64 1] w6 fun e w' => HasEnd w6 w' r1 e) := hide (khas_any w6 W.heap.size 1 180033 (by omega) r1 sv6 lp6 hr6 (ok_b3.rep 1 (by omega)))
  clear hd hc6 t6 hr6 C4 HT5 HC5 HTn5
  go_wp2_with fail
  refine C5.out.mono ?_
  rintro e w7 ⟨hr, hb7⟩
  rcases hr with ⟨h, _⟩ | ⟨_, x, c, rfl, hf⟩
  · cases h
  have HTn7 := hide (HTn6.out.trans (Turn.of_below hb7 HC6.out.way.lt))
  have HC7 := hide (HC6.out.below hb7)
  have hs7 := hb7.size
  have HB27 : Hid (Blk w7 (W.heap.size + 1) 34 [.int .i64 1, .int .u64 2]) := Blk.kept HB2.out (HTn7.out.block _ (by omega) (by omega))
  have HB37 : Hid (Blk w7 (W.heap.size + 2) 38 [.slice none 0 0, .slice (some ⟨W.heap.size + 1, 0, none⟩) 1 1]) := Blk.kept HB3'.out (HTn7.out.block _ (by omega) (by omega))
  have C6 := hide (same_iff _ _ b0 b0 w7 (hf.batchAt b0_rng) (beg_batch HB27.out HB37.out) (small_of_limits b0_lim) (small_of_limits b0_lim))
  clear hf hb7 C5 HC6 HTn6
  go_wp2_with fail
  refine C6.out.mono ?_
  rintro e w8 ⟨⟨r, rfl, hr⟩, hb8⟩
  obtain rfl : r = true := hr.2 trivial
  have HE : Hid (BegEnd W w8 (.returned (.tuple #[.pointer (some ⟨W.heap.size, 0, none⟩), .slice (some ⟨W.heap.size + 2, 0, none⟩) 1 1]))) := by
    have ht := HTn7.out.trans (Turn.of_below hb8 HC7.out.way.lt)
    refine ⟨rfl, HC7.out.below hb8, Blk.kept HB27.out (hb8.block _ HB27.out.lt), Blk.kept HB37.out (hb8.block _ HB37.out.lt), HAp.out.turn ht (fun k hk => by rw [List.mem_singleton.1 hk]; omega), ?_, ?_⟩
    · exact HB3.out.trans ⟨ht.os, ht.tape, ht.output, ht.size, fun k hk => ht.block k (by omega) (by omega)⟩
    · exact HTb.out.kept (ht.block _ (by omega) (by omega)) (ht.block _ (by omega) (by omega))
  clear hb8 hr C6 HC7 HTn7 HB27 HB37 HB2 HB3' HAp HB3 HTb
  go_wp2
  go_ret2
  exact HE.out
end Go.Proofs.YtamcclcbmenjdaaGreatDoor

/- A list of steps in memory. -/
namespace Go.Proofs.YtamcclcbmenjdaaGreatDoor
open Go.RowKit Go.Lib

/-- A step's raw numbers. -/
structure ActIn where
  kd : Int
  rr : Int
  a : Int
  c : Int
  raws : List (Int × Int × Nat)
def ActIn.Ok (x : ActIn) : Prop := Rng64 x.kd ∧ Rng64 x.rr ∧ Rng64 x.a ∧ Rng64 x.c ∧ x.raws.length ≤ 100000000000000
def ActsAt (w : World) (B : Nat) (v : Value) (l : List ActIn) : Prop :=
  ∃ a cap, v = .slice a l.length cap ∧ (∀ x ∈ l, x.Ok) ∧
    (l = [] ∨ ∃ b o, a = some ⟨b, o, none⟩ ∧ b < B ∧ ∀ i x, l[i]? = some x → w.cell? ⟨b, o + i * 5, none⟩ = some (.int .i64 x.kd) ∧ w.cell? ⟨b, o + i * 5 + 1, none⟩ = some (.int .i64 x.rr) ∧ w.cell? ⟨b, o + i * 5 + 2, none⟩ = some (.int .i64 x.a) ∧ w.cell? ⟨b, o + i * 5 + 3, none⟩ = some (.int .i64 x.c) ∧
      ∃ rv, w.cell? ⟨b, o + i * 5 + 4, none⟩ = some rv ∧ RawsAt w B rv x.raws)
theorem ActsAt.below {w w' : World} {B : Nat} {v : Value} {l : List ActIn} (h : ActsAt w B v l) (hb : Below B w w') : ActsAt w' B v l := by
  obtain ⟨a, cap, hv, hr, h2⟩ := h
  refine ⟨a, cap, hv, hr, ?_⟩
  rcases h2 with h2 | ⟨b, o, ha, hbB, hcell⟩
  · exact .inl h2
  · refine .inr ⟨b, o, ha, hbB, fun i x hx => ?_⟩
    obtain ⟨c0, c1, c2, c3, rv, c4, c5⟩ := hcell i x hx
    have e : ∀ j, w'.cell? ⟨b, j, none⟩ = w.cell? ⟨b, j, none⟩ := fun j => hb.cell (p := ⟨b, j, none⟩) hbB
    exact ⟨(e _).trans c0, (e _).trans c1, (e _).trans c2, (e _).trans c3, rv, (e _).trans c4, RawsAt.below c5 hb⟩
theorem RawsAt.wide {w : World} {B B' : Nat} {v : Value} {l : List (Int × Int × Nat)} (h : RawsAt w B v l) (hB : B ≤ B') : RawsAt w B' v l := by
  obtain ⟨a, cap, hv, hr, h2⟩ := h
  exact ⟨a, cap, hv, hr, h2.imp id fun ⟨b, o, ha, hb, hc⟩ => ⟨b, o, ha, Nat.lt_of_lt_of_le hb hB, hc⟩⟩
theorem ActsAt.get {w : World} {B : Nat} {a : Option Addr} {n c : Nat} {l : List ActIn} (h : ActsAt w B (.slice a n c) l) {i : Nat} {x : ActIn} (hx : l[i]? = some x) :
    ∃ b o ra rc, a = some ⟨b, o, none⟩ ∧ b < B ∧ x.Ok ∧ w.cell? ⟨b, o + i * 5, none⟩ = some (.int .i64 x.kd) ∧ w.cell? ⟨b, o + i * 5 + 1, none⟩ = some (.int .i64 x.rr) ∧ w.cell? ⟨b, o + i * 5 + 2, none⟩ = some (.int .i64 x.a) ∧ w.cell? ⟨b, o + i * 5 + 3, none⟩ = some (.int .i64 x.c) ∧
      w.cell? ⟨b, o + i * 5 + 4, none⟩ = some (.slice ra x.raws.length rc) ∧ RawsAt w B (.slice ra x.raws.length rc) x.raws := by
  obtain ⟨a', cap, hv, hr, h2⟩ := h
  cases hv
  rcases h2 with rfl | ⟨b, o, rfl, hb, hcell⟩
  · cases hx
  · obtain ⟨c0, c1, c2, c3, rv, c4, c5⟩ := hcell i x hx
    obtain ⟨ra, rc, rfl, _⟩ := id c5
    exact ⟨b, o, ra, rc, rfl, hb, hr x (List.mem_of_getElem? hx), c0, c1, c2, c3, c4, c5⟩
/-- One step of a list that lies below block B. -/
theorem act_step (W : World) (cb M : Nat) (S : CS) (x : ActIn) (ra : Option Addr) (rc B : Nat) (h : CluAt W cb S) (hk : CSOk M S) (hM : M ≤ 1000000000) (hT : Tabs W) (hcb : 2 < cb) (ho : x.Ok) (hB : B ≤ W.heap.size) (hR : RawsAt W B (.slice ra x.raws.length rc) x.raws) :
    Calls Tryz.prog 18 #[.pointer (some ⟨cb, 0, none⟩), .agg #[.int .i64 x.kd, .int .i64 x.rr, .int .i64 x.a, .int .i64 x.c, .slice ra x.raws.length rc]] W fun e w' => ActEnd W w' cb S e :=
  act_any W cb M x.raws.length rc ra x.kd x.rr x.a x.c S x.raws h hk hM hT hcb ho.1 ho.2.1 ho.2.2.1 ho.2.2.2.1 (hR.wide hB) ho.2.2.2.2
end Go.Proofs.YtamcclcbmenjdaaGreatDoor

/- 'choirlaw.Merges', for any list of texts of bulk at most 1048576: Merge answers the document's frame or error; what is handed in stays. The second form's statement and its card: its only condition is the row's own bound on the argument's bulk. -/
import Derived.Test.YtamcclcbmenjdaaGreatDoorMergesuptoG24
import Derived.Test.YtamcclcbmenjdaaGreatDoorKBatch
import Derived.Test.YtamcclcbmenjdaaGreatDoorMergesuptoG16
import Derived.Test.YtamcclcbmenjdaaGreatDoorMergesuptoG29
import Derived.Test.YtamcclcbmenjdaaGreatDoorRefSer
import Derived.Test.YtamcclcbmenjdaaGreatDoorMergesuptoG20
/- The reference's add: words and pure steps. -/
namespace Go.Proofs.YtamcclcbmenjdaaGreatDoor
open Go.RowKit Go.Lib

theorem own_types {w : World} {b1 b2 e1 e2 s1 s2 n1 n2 : Nat} {v1 v2 : Value} {xs1 xs2 : List Value} (h1 : w.ownsRow b1 e1 s1 v1 n1 xs1) (h2 : w.ownsRow b2 e2 s2 v2 n2 xs2) (he : e1 ≠ e2) : Off v1 v2 := fun k e e' => by
  rcases h1.2 with ⟨rfl, _⟩ | ⟨g, cap, cur, rfl, _, hh, _⟩
  · cases e
  · rcases h2.2 with ⟨rfl, _⟩ | ⟨g2, cap2, cur2, rfl, _, hh2, _⟩
    · cases e'
    · have a1 : g = k := Option.some.inj e
      have a2 : g2 = k := Option.some.inj e'
      rw [a1] at hh; rw [a2, hh] at hh2
      simp only [Option.some.injEq, Obj.cells.injEq] at hh2
      exact he hh2.2.1
def Rng (l : List (Int × Nat)) : Prop := ∀ x ∈ l, -9223372036854775808 ≤ x.1 ∧ x.1 ≤ 9223372036854775807 ∧ x.2 ≤ 18446744073709551615
theorem Rng.snoc {l : List (Int × Nat)} {x : Int × Nat} (h : Rng l) (hx : -9223372036854775808 ≤ x.1 ∧ x.1 ≤ 9223372036854775807 ∧ x.2 ≤ 18446744073709551615) : Rng (l ++ [x]) := fun y hy => by
  rcases List.mem_append.1 hy with h1 | h1
  · exact h y h1
  · rw [List.mem_singleton.1 h1]; exact hx
/-- What is left, put to the samples so far. -/
def addGo (s : Int × Nat) (put : Bool) (r : List (Int × Nat)) : List (Int × Nat) := if put then r else addS s r
def addBo (l : List Lab) (s : Int × Nat) (inn : Bool) (r : List Ser) : List Ser := if inn then r else addB l s r
/-- add's state: the row so far. -/
structure AddSt (W w : World) (t : Int) (u : Nat) (ov : Value) (done : List Ser) (vals : List (Value × Value)) (inn : Bool) : Prop where
  below : Below W.heap.size W w
  box : w.heap[W.heap.size]? = some (.cells #[.int .i64 t, .int .u64 u] 34)
  len : vals.length = done.length
  own : w.ownsRow (W.heap.size + 1) 38 2 ov done.length (serCells vals)
  ent : ∀ (i : Nat) (p : Value × Value) (x : Ser), vals[i]? = some p → done[i]? = some x → LabelsAt W W.heap.size p.1 x.1 ∧ (SamplesAt W W.heap.size p.2 x.2 ∨ (inn = true ∧ Rng x.2 ∧ w.ownsRow (W.heap.size + 1) 34 2 p.2 x.2.length (samCells x.2)))
theorem AddSt.grow {W w w2 : World} {t : Int} {u : Nat} {ov ov' : Value} {done xs : List Ser} {vals ps : List (Value × Value)} {inn inn' : Bool} (h : AddSt W w t u ov done vals inn) (hi : inn = true → inn' = true)
    (hk : ∀ k, k < w.heap.size → some k ≠ ov.ownBlock → w2.heap[k]? = w.heap[k]?) (hb : Below W.heap.size W w2) (ho : w2.ownsRow (W.heap.size + 1) 38 2 ov' (done.length + xs.length) (serCells vals ++ serCells ps)) (hl : ps.length = xs.length)
    (he : ∀ (i : Nat) (p : Value × Value) (x : Ser), ps[i]? = some p → xs[i]? = some x → LabelsAt W W.heap.size p.1 x.1 ∧ (SamplesAt W W.heap.size p.2 x.2 ∨ (inn' = true ∧ Rng x.2 ∧ w2.ownsRow (W.heap.size + 1) 34 2 p.2 x.2.length (samCells x.2)))) : AddSt W w2 t u ov' (done ++ xs) (vals ++ ps) inn' := by
  have hlt : ∀ k, ov.ownBlock = some k → W.heap.size + 1 ≤ k := fun k e => (World.ownsRow.lt h.own k e).1
  have hw : W.heap.size < w.heap.size := (Array.getElem?_eq_some_iff.1 h.box).1
  refine ⟨hb, (hk _ hw fun e => by have := hlt _ e.symm; omega).trans h.box, by simp [h.len, hl], by rw [List.length_append, serCells_app]; exact ho, fun i p x hp hx => ?_⟩
  by_cases hi2 : i < vals.length
  · rw [List.getElem?_append_left hi2] at hp
    rw [List.getElem?_append_left (by rw [← h.len]; exact hi2)] at hx
    obtain ⟨h1, h2⟩ := h.ent i p x hp hx
    refine ⟨h1, h2.imp id fun ⟨h3, h4, h5⟩ => ⟨hi h3, h4, own_kept h5 fun k e => hk k (World.ownsRow.lt h5 k e).2 fun e' => ?_⟩⟩
    exact own_types h5 h.own (by decide) k e e'.symm
  · rw [List.getElem?_append_right (by omega)] at hp
    rw [List.getElem?_append_right (by rw [← h.len]; omega), ← h.len] at hx
    exact he _ p x hp hx
/-- Nothing that was there has turned. -/
theorem AddSt.kept {W w w2 : World} {t : Int} {u : Nat} {ov : Value} {done : List Ser} {vals : List (Value × Value)} {inn : Bool} (h : AddSt W w t u ov done vals inn) (hb : Below w.heap.size w w2) : AddSt W w2 t u ov done vals inn := by
  have hw : W.heap.size < w.heap.size := (Array.getElem?_eq_some_iff.1 h.box).1
  refine ⟨h.below.trans (hb.mono (by omega)), (hb.block _ hw).trans h.box, h.len, own_kept h.own fun k e => hb.block k (World.ownsRow.lt h.own k e).2, fun i p x hp hx => ?_⟩
  obtain ⟨h1, h2⟩ := h.ent i p x hp hx
  exact ⟨h1, h2.imp id fun ⟨h3, h4, h5⟩ => ⟨h3, h4, own_kept h5 fun k e => hb.block k (World.ownsRow.lt h5 k e).2⟩⟩
/-- The samples' row has turned, as long as no list of the row is new. -/
theorem AddSt.other {W w w2 : World} {t : Int} {u n : Nat} {ov mv : Value} {done : List Ser} {vals : List (Value × Value)} {xs : List Value} (h : AddSt W w t u ov done vals false) (hm : w.ownsRow (W.heap.size + 1) 34 2 mv n xs)
    (hk : ∀ k, k < w.heap.size → some k ≠ mv.ownBlock → w2.heap[k]? = w.heap[k]?) (hb : Below W.heap.size W w2) : AddSt W w2 t u ov done vals false := by
  have hw : W.heap.size < w.heap.size := (Array.getElem?_eq_some_iff.1 h.box).1
  refine ⟨hb, (hk _ hw fun e => by have := (World.ownsRow.lt hm _ e.symm).1; omega).trans h.box, h.len, own_kept h.own fun k e => hk k (World.ownsRow.lt h.own k e).2 fun e' => own_types h.own hm (by decide) k e e'.symm, fun i p x hp hx => ?_⟩
  obtain ⟨h1, h2⟩ := h.ent i p x hp hx
  refine ⟨h1, h2.imp id fun ⟨h3, _⟩ => by cases h3⟩
theorem AddSt.batchAt {W w : World} {t : Int} {u : Nat} {ov : Value} {done : List Ser} {vals : List (Value × Value)} {inn : Bool} (h : AddSt W w t u ov done vals inn) : BatchAt w w.heap.size ov done :=
  Pairs.batchAt ⟨h.len, fun i p x hp hx => by
    obtain ⟨h1, h2⟩ := h.ent i p x hp hx
    refine ⟨(h1.below h.below (Nat.le_refl _)).wider h.below.size, ?_⟩
    rcases h2 with h2 | ⟨_, h3, h4⟩
    · exact (h2.below h.below (Nat.le_refl _)).wider h.below.size
    · exact samples_at h4 h3⟩ h.own
theorem AddSt.cells {W w : World} {t : Int} {u : Nat} {ov : Value} {done : List Ser} {vals : List (Value × Value)} {inn : Bool} (h : AddSt W w t u ov done vals inn) : w.cell? ⟨W.heap.size, 0, none⟩ = some (.int .i64 t) ∧ w.cell? ⟨W.heap.size, 1, none⟩ = some (.int .u64 u) ∧ W.heap.size < w.heap.size := by
  refine ⟨?_, ?_, (Array.getElem?_eq_some_iff.1 h.box).1⟩
  · exact cell_of_row w W.heap.size 0 _ _ (0, 0) h.box
  · exact cell_of_row w W.heap.size 1 _ _ (0, 0) h.box
theorem ent_one {W w : World} {inn : Bool} {q : Value × Value} {y : Ser} (h1 : LabelsAt W W.heap.size q.1 y.1) (h2 : SamplesAt W W.heap.size q.2 y.2 ∨ (inn = true ∧ Rng y.2 ∧ w.ownsRow (W.heap.size + 1) 34 2 q.2 y.2.length (samCells y.2))) :
    ∀ (i : Nat) (p : Value × Value) (x : Ser), [q][i]? = some p → [y][i]? = some x → LabelsAt W W.heap.size p.1 x.1 ∧ (SamplesAt W W.heap.size p.2 x.2 ∨ (inn = true ∧ Rng x.2 ∧ w.ownsRow (W.heap.size + 1) 34 2 p.2 x.2.length (samCells x.2))) := fun i p x hp hx => by
  match i, hp, hx with
  | 0, hp, hx => simp at hp hx; subst hp; subst hx; exact ⟨h1, h2⟩
  | i + 1, hp, _ => simp at hp
theorem drop_more {α : Type} {l : List α} {k : Nat} {x : α} (h : l[k]? = some x) : l.drop k = x :: l.drop (k + 1) := by
  obtain ⟨hk, e⟩ := List.getElem?_eq_some_iff.1 h
  rw [List.drop_eq_getElem_cons hk, e]
theorem addGo_next {s x : Int × Nat} {pb : Bool} {m r : List (Int × Nat)} {k : Nat} {sl : List (Int × Nat)} (hx : sl[k]? = some x) (h : m ++ addGo s pb (sl.drop k) = r) (hp : pb = true → ∀ y ∈ sl.drop k, s.1 < y.1) (hr : sl.Pairwise SLt) :
    (pb = true → s.1 < x.1 ∧ (m ++ [x]) ++ addGo s true (sl.drop (k + 1)) = r) ∧ (pb = false → s.1 < x.1 → ((m ++ [s]) ++ [x]) ++ addGo s true (sl.drop (k + 1)) = r) ∧
    (pb = false → x.1 = s.1 → (m ++ [if x.2 < s.2 then s else x]) ++ addGo s true (sl.drop (k + 1)) = r) ∧ (pb = false → x.1 < s.1 → (m ++ [x]) ++ addGo s false (sl.drop (k + 1)) = r) ∧ (s.1 ≤ x.1 → ∀ y ∈ sl.drop (k + 1), s.1 < y.1) := by
  rw [drop_more hx] at h hp
  have hr2 : (sl.drop k).Pairwise SLt := hr.drop
  rw [drop_more hx] at hr2
  obtain ⟨h1, _⟩ := List.pairwise_cons.1 hr2
  refine ⟨fun e => ?_, fun e hlt => ?_, fun e he => ?_, fun e hlt => ?_, fun hle y hy => ?_⟩
  · subst e
    exact ⟨hp rfl x (List.mem_cons_self ..), by rw [← h]; simp [addGo]⟩
  · subst e
    rw [← h]; simp [addGo, addS, hlt]
  · subst e
    rw [← h]
    have h2 : ¬ s.1 < x.1 := by omega
    simp [addGo, addS, he]
  · subst e
    rw [← h]
    have h2 : ¬ s.1 < x.1 := by omega
    have h3 : ¬ x.1 = s.1 := by omega
    simp [addGo, addS, h2, h3]
  · have : x.1 < y.1 := h1 y hy
    omega
end Go.Proofs.YtamcclcbmenjdaaGreatDoor

/- What the reference reads lies within bounds; it reads a frame, and nothing else is one: pure. -/
namespace Go.Proofs.YtamcclcbmenjdaaGreatDoor

theorem inQ_le {S : ByteArray} {u v : US} (h : inQ S u = some v) (hb : u.b ≤ 18446744073709551615) (ht : u.t ≤ 18446744073709551615) : v.b ≤ 18446744073709551615 ∧ v.t ≤ 18446744073709551615 := by
  unfold inQ at h
  split at h
  · cases h
  · rename_i hz
    have hx := bR_lt S u.pos u.st u.z
    generalize bR S u.pos u.st u.z = r at *
    cases h
    exact ⟨xor_le hb (shl_le hx (by omega)), ht⟩
theorem bitQ_le {S : ByteArray} {u v : US} (h : bitQ S u = some v) (hb : u.b ≤ 18446744073709551615) (ht : u.t ≤ 18446744073709551615) : v.b ≤ 18446744073709551615 ∧ v.t ≤ 18446744073709551615 := by
  unfold bitQ at h
  split at h
  · split at h
    · exact inQ_le h hb ht
    · exact inQ_le h hb ht
  · cases h; exact ⟨hb, ht⟩
theorem samU_rng {u : US} (hb : u.b ≤ 18446744073709551615) (ht : u.t ≤ 18446744073709551615) : -9223372036854775808 ≤ (samU u).1 ∧ (samU u).1 ≤ 9223372036854775807 ∧ (samU u).2 ≤ 18446744073709551615 :=
  ⟨(toI_range u.t ht).1, (toI_range u.t ht).2, hb⟩
theorem goQ_rng (S : ByteArray) : ∀ (k : Nat) (u : US) (l : List (Int × Nat)), goQ S k u = some l → u.b ≤ 18446744073709551615 → u.t ≤ 18446744073709551615 → l.length = k ∧ Rng l
  | 0, u, l, h, _, _ => by
    rw [goQ] at h
    split at h
    · cases h; exact ⟨rfl, fun x hx => by cases hx⟩
    · cases h
  | k + 1, u, l, h, hb, ht => by
    rw [goQ] at h
    split at h
    · cases hq : bitQ S (timeQ S u) with
      | none => rw [hq] at h; cases h
      | some v =>
        rw [hq] at h
        simp only at h
        obtain ⟨l', h1, rfl⟩ := Option.map_eq_some_iff.1 h
        have hv := bitQ_le hq hb (add64_le _ _)
        obtain ⟨h2, h3⟩ := goQ_rng S k v l' h1 hv.1 hv.2
        refine ⟨by simp [h2], fun x hx => ?_⟩
        rcases List.mem_cons.1 hx with rfl | hx
        · exact samU_rng hv.1 hv.2
        · exact h3 x hx
    · cases h
theorem firstQ_le (S : ByteArray) : (firstQ S).b ≤ 18446744073709551615 ∧ (firstQ S).t ≤ 18446744073709551615 := by
  have h1 := bR_lt S 0 0 64
  have h2 := bR_lt S (bR S 0 0 64).2.1 (bR S 0 0 64).2.2 64
  unfold firstQ
  simp only
  exact ⟨Nat.le_of_lt_succ h2, Nat.le_of_lt_succ h1⟩
theorem samplesQ_rng {S : ByteArray} {n : Nat} {l : List (Int × Nat)} (h : samplesQ S n = some l) : l.length ≤ 40 ∧ Rng l := by
  unfold samplesQ at h
  split at h
  · cases h
  · rename_i hn
    obtain ⟨l', h1, rfl⟩ := Option.map_eq_some_iff.1 h
    have hf := firstQ_le S
    obtain ⟨h2, h3⟩ := goQ_rng S _ _ l' h1 hf.1 hf.2
    refine ⟨by simp; omega, fun x hx => ?_⟩
    rcases List.mem_cons.1 hx with rfl | hx
    · exact samU_rng hf.1 hf.2
    · exact h3 x hx
theorem lQ_len (S : ByteArray) (t : List ByteArray) : ∀ (k p : Nat) (bad : Bool) (r : List Lab × Nat), lQ S t k p bad = some r → r.1.length = k
  | 0, p, bad, r, h => by
    rw [lQ] at h
    split at h
    · cases h
    · cases h; rfl
  | k + 1, p, bad, r, h => by
    rw [lQ] at h
    split at h
    · cases h
    · split at h
      · cases h
      · obtain ⟨r', h1, rfl⟩ := Option.map_eq_some_iff.1 h
        simp [lQ_len S t k _ _ r' h1]
theorem serQ_small {S : ByteArray} {t : List ByteArray} {p q : Nat} {s : Ser} (h : serQ S t p = some (s, q)) : s.1.length ≤ 4 ∧ s.2.length ≤ 40 ∧ Rng s.2 := by
  unfold serQ at h
  split at h
  · cases h
  · rename_i hn
    cases hl : lQ S t (vR S p false).1 (vR S p false).2.1 (vR S p false).2.2 with
    | none => rw [hl] at h; cases h
    | some r =>
      obtain ⟨l, a1⟩ := r
      rw [hl] at h
      simp only at h
      obtain ⟨r', h1, h2⟩ := Option.map_eq_some_iff.1 h
      cases h2
      have h3 := lQ_len S t _ _ _ _ hl
      unfold mQ at h1
      obtain ⟨m, h4, rfl⟩ := Option.map_eq_some_iff.1 h1
      have h5 := samplesQ_rng h4
      exact ⟨by show l.length ≤ 4; simp only at h3; omega, h5.1, h5.2⟩
theorem gQ_small (S : ByteArray) (t : List ByteArray) : ∀ (k p : Nat) (bs : List Ser), gQ S t k p = some bs → bs.length = k ∧ ∀ s ∈ bs, s.1.length ≤ 4 ∧ s.2.length ≤ 40 ∧ Rng s.2
  | 0, p, bs, h => by rw [gQ] at h; cases h; exact ⟨rfl, fun s hs => by cases hs⟩
  | k + 1, p, bs, h => by
    rw [gQ] at h
    cases hs : serQ S t p with
    | none => rw [hs] at h; cases h
    | some r =>
      obtain ⟨s, a1⟩ := r
      rw [hs] at h
      simp only at h
      obtain ⟨bs', h1, rfl⟩ := Option.map_eq_some_iff.1 h
      obtain ⟨h2, h3⟩ := gQ_small S t k a1 bs' h1
      refine ⟨by simp [h2], fun x hx => ?_⟩
      rcases List.mem_cons.1 hx with rfl | hx
      · exact serQ_small hs
      · exact h3 x hx
/-- A frame is read by the reference as by the program. -/
theorem frame_dec {S : ByteArray} (h : IsFrame S.data.toList) : decQ (S.extract 0 (S.size - 4)) = some (got S.data.toList) := by
  have e := h.eq
  have hr : InRange (got S.data.toList) := (payR_small (BA (inner S.data.toList))).2
  have h1 := decQ_of _ h.batch h.limits hr
  have hsz : S.data.toList.length = S.size := by simp
  have hx : S.extract 0 (S.size - 4) = BA (headOf (payload (got S.data.toList))) := by
    have h2 := BA_take (headOf (payload (got S.data.toList))) (le32 (Pl.crc (headOf (payload (got S.data.toList)))))
    have h3 : BA (headOf (payload (got S.data.toList)) ++ le32 (Pl.crc (headOf (payload (got S.data.toList))))) = S := by
      show BA (frameOf (payload (got S.data.toList))) = S
      rw [← e, BA_of]
    have h4 : (headOf (payload (got S.data.toList))).length = S.size - 4 := by
      have h5 := frameOf_length (payload (got S.data.toList))
      have h6 := headOf_length (payload (got S.data.toList))
      rw [← e, hsz] at h5
      omega
    rw [h3, h4] at h2
    exact h2
  rw [hx]; exact h1
/-- What was read, packed again, is the text: then it is a frame, of that. -/
theorem dec_frame {S : ByteArray} {bs : List Ser} (hc : Code bs 0) (hr : InRange bs) (he : BA (frameOf (payload bs)) = S) : IsFrame S.data.toList ∧ got S.data.toList = bs := by
  have hok : BatchOk bs ∧ LimitsOk bs := by
    rcases hc with ⟨h, _⟩ | ⟨h, _⟩ | ⟨_, h⟩
    · cases h
    · cases h
    · exact h
  have h := frame_is bs hok.1 hok.2 hr
  rw [← he, BA_list]
  exact h
theorem dec_no {S : ByteArray} {bs : List Ser} {n : Nat} (hd : decQ (S.extract 0 (S.size - 4)) = some bs) (hc : Code bs n) (h : n ≠ 0 ∨ BA (frameOf (payload bs)) ≠ S) : ¬ IsFrame S.data.toList := fun hf => by
  have h1 := frame_dec hf
  rw [hd] at h1
  cases h1
  rcases h with h | h
  · exact h (hc.unique (.inr (.inr ⟨rfl, hf.batch, hf.limits⟩)))
  · refine h ?_
    rw [← hf.eq, BA_of]
theorem dec_none {S : ByteArray} (hd : decQ (S.extract 0 (S.size - 4)) = none) : ¬ IsFrame S.data.toList := fun hf => by
  have h1 := frame_dec hf
  rw [hd] at h1
  cases h1
theorem tQ_bad (S : ByteArray) (k p : Nat) : tQ S k p true = ([], p, true) := by cases k <;> simp [tQ]
theorem tQ_zero (S : ByteArray) (p : Nat) (bad : Bool) : tQ S 0 p bad = ([], p, bad) := rfl
theorem tQ_on {S X : ByteArray} {k p z p1 p2 : Nat} {b1 b2 : Bool} (h1 : vR S p false = (z, p1, b1)) (h2 : partR S p1 b1 z = (X, p2, b2)) : tQ S (k + 1) p false = (X :: (tQ S k p2 b2).1, (tQ S k p2 b2).2) := by
  rw [tQ, if_neg (by decide), h1]; simp only; rw [h2]
theorem decQ_bad {S : ByteArray} {n p1 q m q1 : Nat} {b1 bb b2 : Bool} {t : List ByteArray} (h1 : vR S 7 false = (n, p1, b1)) (h2 : tQ S n p1 b1 = (t, q, bb)) (h3 : vR S q bb = (m, q1, b2)) (h : b2 = true ∨ 8 < m) : decQ S = none := by
  unfold decQ; rw [h1]; simp only; rw [h2]; simp only; rw [h3, if_pos h]
theorem decQ_good {S : ByteArray} {n p1 q m q1 : Nat} {b1 bb : Bool} {t : List ByteArray} (h1 : vR S 7 false = (n, p1, b1)) (h2 : tQ S n p1 b1 = (t, q, bb)) (h3 : vR S q bb = (m, q1, false)) (h : ¬ 8 < m) : decQ S = gQ S t m q1 := by
  unfold decQ; rw [h1]; simp only; rw [h2]; simp only; rw [h3, if_neg (by rintro (h4 | h4); cases h4; exact h h4)]
end Go.Proofs.YtamcclcbmenjdaaGreatDoor

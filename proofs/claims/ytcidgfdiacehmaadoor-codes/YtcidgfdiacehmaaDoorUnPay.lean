/- unpackPayload. -/
import Derived.Test.YtcidgfdiacehmaaDoorSamples
import Derived.Test.YtcidgfdiacehmaaDoorTextsRd
namespace Go.Proofs.YtcidgfdiacehmaaDoor
open Go.RowKit Go.Lib

theorem Tryd.infoSer : (Tryd.prog.info? 46).map (fun i => (i.zero, i.size, i.bytes)) = some (some (.agg #[.slice none 0 0, .slice none 0 0]), 2, 48) := by kernel_rfl
def serCells (l : List (Value × Value)) : List Value := l.flatMap fun x => [x.1, x.2]
theorem serCells_snoc (l : List (Value × Value)) (x : Value × Value) : serCells (l ++ [x]) = serCells l ++ [x.1, x.2] := by simp [serCells]
theorem own_shape {base e size n : Nat} {w : World} {v : Value} {xs : List Value} (h : w.ownsRow base e size v n xs) : ∃ a c, v = .slice a n c := by
  rcases h.2 with ⟨rfl, rfl⟩ | ⟨g, cap, cur, rfl, _⟩ <;> exact ⟨_, _, rfl⟩
/-- Series of the call's own, each with lists of its own. -/
def Sers (w : World) (base : Nat) (vals : List (Value × Value)) (bs : List Ser) : Prop :=
  vals.length = bs.length ∧ ∀ (i : Nat) (p : Value × Value) (x : Ser), vals[i]? = some p → bs[i]? = some x → w.ownsRow base 42 2 p.1 x.1.length (labCells x.1) ∧ w.ownsRow base 56 2 p.2 x.2.length (samCells x.2)
theorem Sers.kept {w w' : World} {base : Nat} {vals : List (Value × Value)} {bs : List Ser} (h : Sers w base vals bs) (hk : ∀ k, base ≤ k → k < w.heap.size → w'.heap[k]? = w.heap[k]?) : Sers w' base vals bs :=
  ⟨h.1, fun i p x hp hx => ⟨own_kept (h.2 i p x hp hx).1 fun k e => hk k (World.ownsRow.lt (h.2 i p x hp hx).1 k e).1 (World.ownsRow.lt (h.2 i p x hp hx).1 k e).2,
    own_kept (h.2 i p x hp hx).2 fun k e => hk k (World.ownsRow.lt (h.2 i p x hp hx).2 k e).1 (World.ownsRow.lt (h.2 i p x hp hx).2 k e).2⟩⟩
theorem Sers.nil (w : World) (base : Nat) : Sers w base [] [] := ⟨rfl, fun i p x h => by simp at h⟩
theorem Sers.snoc {w : World} {base : Nat} {vals : List (Value × Value)} {bs : List Ser} {p : Value × Value} {x : Ser} (h : Sers w base vals bs) (h1 : w.ownsRow base 42 2 p.1 x.1.length (labCells x.1)) (h2 : w.ownsRow base 56 2 p.2 x.2.length (samCells x.2)) :
    Sers w base (vals ++ [p]) (bs ++ [x]) := by
  refine ⟨by simp [h.1], fun i q y hq hy => ?_⟩
  by_cases hi : i < vals.length
  · rw [List.getElem?_append_left hi] at hq
    rw [List.getElem?_append_left (by rw [← h.1]; exact hi)] at hy
    exact h.2 i q y hq hy
  · have hi2 : i < vals.length + 1 := by
      have := (List.getElem?_eq_some_iff.1 hq).1; simpa using this
    have e : i = vals.length := by omega
    subst e
    rw [List.getElem?_append_right (Nat.le_refl _), Nat.sub_self] at hq
    rw [h.1, List.getElem?_append_right (Nat.le_refl _), Nat.sub_self] at hy
    cases hq
    cases hy
    exact ⟨h1, h2⟩
/-- A batch of the call's own memory. -/
def Fresh (w : World) (base : Nat) (v : Value) (bs : List Ser) : Prop :=
  ∃ vals, w.ownsRow base 46 2 v bs.length (serCells vals) ∧ Sers w base vals bs
theorem own_cell {base e size n : Nat} {w : World} {g cap : Nat} {xs : List Value} (h : w.ownsRow base e size (.slice (some ⟨g, 0, none⟩) n cap) n xs) {j : Nat} {u : Value} (hu : xs[j]? = some u) : w.cell? ⟨g, j, none⟩ = some u := by
  have := h.cells (g := g) rfl j u hu
  have e : (⟨g, 0, none⟩ : Addr).add j = ⟨g, j, none⟩ := by simp [Addr.add]; exact fun h => h.symm
  rw [e] at this; exact this
theorem pair_get {α : Type} (f g : α → Value) (l : List α) : ∀ (i : Nat) (x : α), l[i]? = some x → (l.flatMap fun x => [f x, g x])[i * 2]? = some (f x) ∧ (l.flatMap fun x => [f x, g x])[i * 2 + 1]? = some (g x) := by
  induction l with
  | nil => intro i x h; simp at h
  | cons y r ih =>
    intro i x h
    cases i with
    | zero => simp only [List.getElem?_cons_zero, Option.some.injEq] at h; subst h; simp
    | succ i =>
      simp only [List.getElem?_cons_succ] at h
      have := ih i x h
      rw [show (i + 1) * 2 = i * 2 + 1 + 1 by omega]
      simpa using this
theorem labels_at {base : Nat} {w : World} {v : Value} {l : List Lab} (h : w.ownsRow base 42 2 v l.length (labCells l)) : LabelsAt w w.heap.size v l := by
  have hlt := fun k e => (World.ownsRow.lt h k e).2
  rcases h.2 with ⟨rfl, h0⟩ | ⟨g, cap, cur, rfl, hg, hh, hc, _⟩
  · exact ⟨none, 0, by rw [h0], by omega, .inl (List.eq_nil_of_length_eq_zero h0)⟩
  · refine ⟨_, cap, rfl, hc, .inr ⟨g, 0, rfl, hlt g rfl, fun i x hx => ?_⟩⟩
    have := pair_get (fun x : Lab => .string x.1) (fun x => .string x.2) l i x hx
    rw [Nat.zero_add]
    exact ⟨own_cell h this.1, own_cell h this.2⟩
theorem samples_at {base : Nat} {w : World} {v : Value} {l : List (Int × Nat)} (h : w.ownsRow base 56 2 v l.length (samCells l)) (hr : ∀ x ∈ l, -9223372036854775808 ≤ x.1 ∧ x.1 ≤ 9223372036854775807 ∧ x.2 ≤ 18446744073709551615) : SamplesAt w w.heap.size v l := by
  have hlt := fun k e => (World.ownsRow.lt h k e).2
  rcases h.2 with ⟨rfl, h0⟩ | ⟨g, cap, cur, rfl, hg, hh, hc, _⟩
  · exact ⟨none, 0, by rw [h0], by omega, hr, .inl (List.eq_nil_of_length_eq_zero h0)⟩
  · refine ⟨_, cap, rfl, hc, hr, .inr ⟨g, 0, rfl, hlt g rfl, fun i x hx => ?_⟩⟩
    have := pair_get (fun x : Int × Nat => .int .i64 x.1) (fun x => .int .u64 x.2) l i x hx
    rw [Nat.zero_add]
    exact ⟨own_cell h this.1, own_cell h this.2⟩
theorem Fresh.batchAt {base : Nat} {w : World} {v : Value} {bs : List Ser} (h : Fresh w base v bs) (hr : ∀ s ∈ bs, ∀ x ∈ s.2, -9223372036854775808 ≤ x.1 ∧ x.1 ≤ 9223372036854775807 ∧ x.2 ≤ 18446744073709551615) : BatchAt w w.heap.size v bs := by
  obtain ⟨vals, ho, hS⟩ := h
  have hlt := fun k e => (World.ownsRow.lt ho k e).2
  rcases ho.2 with ⟨rfl, h0⟩ | ⟨g, cap, cur, rfl, hg, hh, hc, _⟩
  · exact ⟨none, 0, by rw [h0], by omega, .inl (List.eq_nil_of_length_eq_zero h0)⟩
  · refine ⟨_, cap, rfl, hc, .inr ⟨g, 0, rfl, hlt g rfl, fun i x hx => ?_⟩⟩
    obtain ⟨p, hp⟩ : ∃ p, vals[i]? = some p := ⟨_, List.getElem?_eq_getElem (by rw [hS.1]; exact (List.getElem?_eq_some_iff.1 hx).1)⟩
    have := pair_get (fun x : Value × Value => x.1) (fun x => x.2) vals i p hp
    have hs := hS.2 i p x hp hx
    rw [Nat.zero_add]
    exact ⟨p.1, p.2, own_cell ho this.1, own_cell ho this.2, labels_at hs.1, samples_at hs.2 (hr x (List.mem_of_getElem? hx))⟩
theorem texts_at {base : Nat} {w : World} {v : Value} {l : List ByteArray} (h : w.ownsRow base 9 1 v l.length (Strs l)) (hb : 0 < w.heap.size) : ∃ tb, TextsAt w v tb l ∧ tb < w.heap.size ∧ (tb = 0 ∨ base ≤ tb) := by
  have hlt := fun k e => World.ownsRow.lt h k e
  rcases h.2 with ⟨rfl, h0⟩ | ⟨g, cap, cur, rfl, hg, hh, hc, _⟩
  · exact ⟨0, ⟨.inl ⟨List.eq_nil_of_length_eq_zero h0, _, _, rfl⟩⟩, hb, .inl rfl⟩
  · refine ⟨g, ⟨.inr ⟨0, cap, rfl, fun i x hx => ?_⟩⟩, (hlt g rfl).2, .inr hg⟩
    rw [Nat.zero_add]
    exact own_cell h (by simp [Strs, hx])
theorem YR.init {w : World} {s : ByteArray} : YR (w.alloc (.cells #[.string s, .int .i64 0] 95)) w.heap.size 0 s 0 :=
  ⟨World.cell?_alloc_new _ _ _ 0, World.cell?_alloc_new _ _ _ 1, World.frozen?_alloc_new _ _ _ 0, World.frozen?_alloc_new _ _ _ 1⟩

set_option maxRecDepth 100000 in
set_option maxHeartbeats 400000 in
theorem unpackPayload_any (s : ByteArray) (w : World) (hs : s.size ≤ 140737488355328) (hT : Tabs w) :
    Calls Tryd.prog 42 #[.string s] w fun e w' => ∃ v, e = .returned (.tuple #[v, .int .i64 (payR s).2.2]) ∧ Fresh w' w.heap.size v (payR s).1 ∧ Below w.heap.size w w' := by
  obtain ⟨i0, hi, hz0, hz1, hz2⟩ := info_parts Tryd.infoSer
  have h3 := hT.lt
  have hY0 := YR.init (w := w) (s := s)
  have hT0 := hT.alloc (.cells #[.string s, .int .i64 0] 95)
  have hS0 : Short 140737488355328 ((s, 0) : Rest) := ⟨hs, by omega⟩
  have C1 := hide (texts_any w.heap.size 0 (s, 0) _ hY0 hS0)
  have hS1 := short_texts hS0
  have HE : Hid (payR s = seqTo (serR (textsR (s, 0)).1) (numR (textsR (s, 0)).2.1 8 (textsR (s, 0)).2.2).2 (numR (textsR (s, 0)).2.1 8 (textsR (s, 0)).2.2).1) := rfl
  have htl : (textsR (s, 0)).1.length ≤ 64 := by
    unfold textsR; rw [seqTo_length]; exact num_nat (s, 0) 64
  generalize textsR (s, 0) = t at *
  obtain ⟨texts, p1⟩ := t
  simp only at C1 hS1 HE htl
  have HB0 : Hid (Below w.heap.size w (w.alloc (.cells #[.string s, .int .i64 0] 95))) := (Below.refl _ _).alloc (Nat.le_refl _) _
  have HT0 := hide hT0
  clear hY0 hT0 hS0 hT
  go_enter Tryd.func42, Tryd.ntmps42
  go_wp2_with fail
  refine C1.out.mono ?_
  rintro e w1 ⟨tv, rfl, hO1, hY1, hR1⟩
  have hT1 := HT0.out.rd hR1 (by omega)
  have HB1 := hide (below_rd HB0.out hR1 (by simp) (Nat.le_refl _))
  obtain ⟨tb, hTx, htbw, htb⟩ := texts_at hO1 (by have := hT1.lt; omega)
  have htb1 : tb ≠ w.heap.size := by
    rcases htb with h | h
    · omega
    · simp at h; omega
  obtain ⟨ta, tc, rfl⟩ := own_shape hO1
  have C2 := hide (number_is w.heap.size 0 p1.2 p1.1 8 w1 hY1 hS1.1)
  have hn : (numR p1.1 8 p1.2).1 ≤ 8 := num_nat p1 8
  have hS2 := short_num hS1 8
  generalize numR p1.1 8 p1.2 = r at *
  obtain ⟨n, p2⟩ := r
  simp only at C2 hn hS2 HE
  have HTx := hide hTx
  have HT1 := hide hT1
  clear hY1 hO1 hR1 hTx hT1 C1 HT0 HB0 hS1 htb
  go_wp2_with fail
  refine C2.out.mono ?_
  rintro e w2 ⟨rfl, hY2, hR2⟩
  have HTx2 := hide (HTx.out.kept (hR2.block tb htbw htb1))
  have HT2 := hide (HT1.out.rd hR2 (by omega))
  have HB2 := hide (below_rd HB1.out hR2 HB1.out.size (Nat.le_refl _))
  have htbw2 : tb < w2.heap.size := Nat.lt_of_lt_of_le htbw hR2.size
  have HY2 := hide hY2
  have hyw := hY2.lt
  clear hY2 hR2 C2 HTx HT1 HB1
  go_wp2_with (first | (at_make; refine wpList_make_own _ rfl _ _ 22 rfl (w.heap.size + 1) 46 i0 _ 2 Tryd.underlying22 hi hz0 hz1 .i64 .i64 _ n rfl rfl rfl (by rw [hz2]; omega) (by unfold maxLen; omega) (by omega) ?_; intro w3 hown3 hgrow3))
  have hsz3 := hgrow3.size
  have HTx3 := hide (HTx2.out.kept (hgrow3.block tb htbw2 (by simp)))
  have HT3 := hide (HT2.out.kept (hgrow3.block _ (by omega) (by simp)) (hgrow3.block _ (by omega) (by simp)))
  have HY3 := hide (HY2.out.grown hgrow3 (by simp))
  have HB3 := hide (below_grownAt HB2.out hgrow3 HB2.out.size (by simp))
  have HO3 := hide hown3
  have HSh := hide hS2
  generalize hg : w2.heap.size = g at *
  have hgw : g < w3.heap.size := (World.ownsRow.lt hown3 g rfl).2
  clear hown3 hgrow3 HTx2 HT2 HY2 HB2 hS2
  go_wp2
  go_loopw [7, 8, 16] (fun o _ i wr => ∃ (k : Nat) (vals : List (Value × Value)), k ≤ n ∧ i = .int .i64 k ∧ o = .slice (some ⟨g, 0, none⟩) k n ∧ wr.ownsRow (w.heap.size + 1) 46 2 (.slice (some ⟨g, 0, none⟩) k n) k (serCells vals) ∧ Sers wr (g + 1) vals (seqTo (serR texts) p2 k).1 ∧
      YR wr w.heap.size 0 (seqTo (serR texts) p2 k).2.1 (seqTo (serR texts) p2 k).2.2 ∧ TextsAt wr (.slice ta texts.length tc) tb texts ∧ Tabs wr ∧ Below w.heap.size w wr ∧ w3.heap.size ≤ wr.heap.size) (fun _ _ i _ => n - (intOf i).toNat)
  case atStart => exact ⟨0, [], Nat.zero_le _, rfl, rfl, HO3.out, Sers.nil _ _, HY3.out, HTx3.out, HT3.out, HB3.out, Nat.le_refl _⟩
  case round =>
    obtain ⟨k, vals, hk, rfl, rfl, hO, hSr, hY, hTx, hTb, hB, hsz⟩ := hrel
    have HO := hide hO
    have HSr := hide hSr
    have HB := hide hB
    clear HO3 HY3 HTx3 HT3 HB3
    by_cases hlt : k < n
    · have hS := seqTo_inv (serR texts) (Short 140737488355328) (fun _ h => short_ser texts h) p2 HSh.out k
      have C3 := hide (labels_any w.heap.size 0 tb (seqTo (serR texts) p2 k).2 _ texts wr hY hS hTx htb1 (by omega) (by omega))
      have hS3 := short_labs texts hS
      have HX1 : Hid ((seqTo (serR texts) p2 (k + 1)).1 = (seqTo (serR texts) p2 k).1 ++ [((labsR texts (seqTo (serR texts) p2 k).2).1, (samplesR (labsR texts (seqTo (serR texts) p2 k).2).2).1)]) := rfl
      have HX2 : Hid ((seqTo (serR texts) p2 (k + 1)).2 = (samplesR (labsR texts (seqTo (serR texts) p2 k).2).2).2) := rfl
      generalize (seqTo (serR texts) p2 k).2 = q at *
      generalize (seqTo (serR texts) p2 k).1 = done at *
      generalize labsR texts q = a1 at *
      obtain ⟨l1, q1⟩ := a1
      simp only at C3 hS3 HX1 HX2
      have HTx := hide hTx
      have HTb := hide hTb
      clear hO hSr hY hTx hTb hB hS
      go_wp2_with fail
      refine C3.out.mono ?_
      rintro e w4 ⟨lv, rfl, hO4, hY4, hR4⟩
      have hsz4 := hR4.size
      have HL4 := hide hO4
      have HO4 := hide (own_rd HO.out hR4 (by omega))
      have HSr4 := hide (HSr.out.kept fun j hj hjw => hR4.block j hjw (by omega))
      have HTx4 := hide (HTx.out.kept (hR4.block tb (by omega) htb1))
      have HTb4 := hide (HTb.out.rd hR4 (by omega))
      have HB4 := hide (below_rd HB.out hR4 HB.out.size (Nat.le_refl _))
      have C4 := hide (samples_any w.heap.size 0 q1 w4 hY4 hS3 HTb4.out (by omega))
      obtain ⟨la, lc, rfl⟩ := own_shape hO4
      generalize samplesR q1 = a2 at *
      obtain ⟨l2, q2⟩ := a2
      simp only at C4 HX1 HX2
      clear hO4 hY4 hR4 C3 HO HSr HTx HTb HB
      go_wp2_with fail
      refine C4.out.mono ?_
      rintro e w5 ⟨sv, rfl, hO5, hY5, hR5⟩
      have hsz5 := hR5.size
      have HM5 := hide (own_mono hO5 (show g + 1 ≤ w4.heap.size by omega))
      have HL5 := hide (own_mono (own_rd HL4.out hR5 (by omega)) (show g + 1 ≤ wr.heap.size by omega))
      have HO5 := hide (own_rd HO4.out hR5 (by omega))
      have HSr5 := hide (HSr4.out.kept fun j hj hjw => hR5.block j hjw (by omega))
      have HTx5 := hide (HTx4.out.kept (hR5.block tb (by omega) htb1))
      have HTb5 := hide (HTb4.out.rd hR5 (by omega))
      have HB5 := hide (below_rd HB4.out hR5 HB4.out.size (Nat.le_refl _))
      have HY5 := hide hY5
      have hyw5 := hY5.lt
      obtain ⟨sa, sc, rfl⟩ := own_shape hO5
      clear hO5 hY5 hR5 C4 HL4 HO4 HSr4 HTx4 HTb4 HB4
      go_wp2_with (first | (at_builtin; refine wpList_append_own_spare _ rfl (.tmp 20) (.tmp 24) 22 rfl (w.heap.size + 1) 46 i0 2 Tryd.underlying22 hi hz1 g k n _ rfl (own_alloc HO5.out _) ⟨w5.heap.size, 0, none⟩ 1 1 [.slice la l1.length lc, .slice sa l2.length sc] rfl rfl (cells_new _ _ _) (one_two rfl rfl) (by omega) ?_))
      intro w6 hown6 hgrow6
      have hsz6 : w5.heap.size + 1 ≤ w6.heap.size := by have := hgrow6.size; simpa using this
      have hkeep : ∀ j, j < w5.heap.size → j ≠ g → w6.heap[j]? = w5.heap[j]? := fun j hj hne => (hgrow6.block j (by simp; omega) (fun e => hne (Option.some.inj e))).trans (heap_alloc_old w5 _ hj)
      have HO6 : Hid (w6.ownsRow (w.heap.size + 1) 46 2 (.slice (some ⟨g, 0, none⟩) (k + 1) n) (k + 1) (serCells (vals ++ [(.slice la l1.length lc, .slice sa l2.length sc)]))) := by
        rw [serCells_snoc]; exact hown6
      have HSr6 : Hid (Sers w6 (g + 1) (vals ++ [(.slice la l1.length lc, .slice sa l2.length sc)]) (seqTo (serR texts) p2 (k + 1)).1) := by
        rw [HX1.out]
        exact (HSr5.out.snoc (p := (.slice la l1.length lc, .slice sa l2.length sc)) (x := (l1, l2)) HL5.out HM5.out).kept fun j hj hjw => hkeep j hjw (by omega)
      have HY6 : Hid (YR w6 w.heap.size 0 (seqTo (serR texts) p2 (k + 1)).2.1 (seqTo (serR texts) p2 (k + 1)).2.2) := by
        rw [HX2.out]; exact HY5.out.kept (hkeep _ hyw5 (by omega))
      have HTx6 := hide (HTx5.out.kept (hkeep tb (by omega) (by omega)))
      have HTb6 := hide (HTb5.out.kept (hkeep _ (by omega) (by omega)) (hkeep _ (by omega) (by omega)))
      have HB6 : Hid (Below w.heap.size w w6) := below_grownAt (HB5.out.alloc HB5.out.size _) hgrow6 (by simp; omega) (fun b e => by have := Option.some.inj e; omega)
      clear hown6 hgrow6 hkeep HO5 HSr5 HY5 HTx5 HTb5 HB5 HL5 HM5 HX1 HX2
      go_wp2
      go_roundw
      case rel => exact ⟨k + 1, _, by omega, by go_num, rfl, HO6.out, HSr6.out, HY6.out, HTx6.out, HTb6.out, HB6.out, by omega⟩
      case measure => simp [intOf]; omega
    · have hke : k = n := by omega
      subst hke
      have c1 := hY.c1
      have HE2 := hide HE.out
      clear hO hSr hY hTx hTb hB
      go_wp2
      go_quiet (fail)
      go_wp2
      go_ret2
      rw [HE2.out]
      refine ⟨.slice (some ⟨g, 0, none⟩) k k, rfl, ⟨vals, ?_, ?_⟩, below_drewN HB.out _⟩
      · rw [seqTo_length]; exact own_mono HO.out (Nat.le_succ _)
      · exact ⟨HSr.out.1, fun i p x hp hx => ⟨own_mono (HSr.out.2 i p x hp hx).1 (by omega), own_mono (HSr.out.2 i p x hp hx).2 (by omega)⟩⟩
end Go.Proofs.YtcidgfdiacehmaaDoor

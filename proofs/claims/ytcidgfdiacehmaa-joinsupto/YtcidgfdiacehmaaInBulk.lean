/- A list of series that came in, of a bulk. -/
import Derived.Test.YtcidgfdiacehmaaJoinsuptoG15
import Derived.Test.YtcidgfdiacehmaaRows
namespace Go.Proofs.Ytcidgfdiacehmaa
open Go.RowKit Go.Lib Go.ChangeShapes Go.WideShapes

theorem bulk_pos {H : Type} (d : DataW H) : 1 ≤ Rows.uptoBulk d := by
  cases d with
  | lit l => cases l <;> simp [Rows.uptoBulk]
  | _ => simp [Rows.uptoBulk]
theorem bulk_sum {H : Type} {f : Nat → Nat} {D : Nat → DataW H} : ∀ (L : List Nat), (∀ i ∈ L, f i ≤ Rows.uptoBulk (D i)) → (L.map f).sum ≤ Rows.uptoBulkAll (L.map D)
  | [], _ => by simp
  | i :: L, h => by
    have h1 := h i (List.mem_cons_self ..)
    have h2 := bulk_sum L fun k hk => h k (List.mem_cons_of_mem _ hk)
    rw [List.map_cons, List.map_cons, List.sum_cons, Rows.uptoBulkAll]; omega
/-- A slice of structs of two cells, and its bulk. -/
theorem slice_bulk {H : Type} {enc : TypeId × Value → H} {W : World} {T e : TypeId} (hT : Try.prog.underlying T = some (.slice e)) (he : Try.prog.cellsOf e = 2) {α : Type} [Inhabited α] (R : α → Value → Value → Prop) (μ : α → Nat)
    (each : ∀ (n : Nat) (c0 c1 : Value) (y : DataW H × List MemPlace), DataW.trod enc Try.prog W 0 (fun _ => true) true n e [c0, c1] = some y → Light e y.1 → ∃ z : α, R z c0 c1 ∧ μ z ≤ Rows.uptoBulk y.1)
    {fuel : Nat} {cs : List Value} {x : DataW H × List MemPlace} (h : DataW.trod enc Try.prog W 0 (fun _ => true) true fuel T cs = some x) (hw : Light T x.1) :
    ∃ (a : Option Addr) (cap : Nat) (l : List α), cs = [.slice a l.length cap] ∧ l.length ≤ cap ∧ (l.map μ).sum + 1 ≤ Rows.uptoBulk x.1 ∧
      (l = [] ∨ ∃ b o, a = some ⟨b, o, none⟩ ∧ b < W.heap.size ∧ ∀ i z, l[i]? = some z → ∃ c0 c1, W.cell? ⟨b, o + i * 2, none⟩ = some c0 ∧ W.cell? ⟨b, o + i * 2 + 1, none⟩ = some c1 ∧ R z c0 c1) := by
  rcases Go.Deep.open_slice hT h with ⟨hcs, hx⟩ | ⟨a, len, cap, m, n, D, Pl, hcs, hb, hl, hm, hmm, hx, hel⟩
  · exact ⟨none, 0, [], hcs, Nat.le_refl _, by simpa using bulk_pos x.1, .inl rfl⟩
  · simp only [if_true] at hmm
    subst hmm
    have hd : x.1 = .slice ((List.range len).map D) ((List.range (m - len)).map fun j => D (len + j)) := congrArg Prod.fst hx
    rw [hd] at hw ⊢
    rw [he] at hel
    have hone : ∀ i, i < len → ∃ z : α, (∃ c0 c1, W.cell? (a.add (i * 2)) = some c0 ∧ W.cell? ((a.add (i * 2)).add 1) = some c1 ∧ R z c0 c1) ∧ μ z ≤ Rows.uptoBulk (D i) := fun i hi => by
      obtain ⟨cs', h1, h2⟩ := hel i (by omega)
      obtain ⟨_, hlen, hcell⟩ := World.cells?_some h1
      match cs', hlen, hcell, h2 with
      | [c0, c1], _, hcell, h2 =>
        have q0 := hcell 0 (by omega)
        have q1 := hcell 1 (by omega)
        have z0 : (a.add (i * 2)).add 0 = a.add (i * 2) := by unfold Addr.add; simp
        rw [z0] at q0
        obtain ⟨z, hz, hu⟩ := each n c0 c1 _ h2 (hw.elem hT (List.mem_map.2 ⟨i, List.mem_range.2 hi, rfl⟩))
        exact ⟨z, ⟨c0, c1, q0, q1, hz⟩, hu⟩
    obtain ⟨F, hF⟩ := Go.Deep.choose_lt hone
    have hlen : ((List.range len).map F).length = len := by simp
    refine ⟨some a, m, (List.range len).map F, by rw [hlen]; exact hcs, by omega, ?_, ?_⟩
    · have h1 := bulk_sum (f := fun i => μ (F i)) (D := D) (List.range len) fun i hi => (hF i (List.mem_range.1 hi)).2
      rw [List.map_map, Rows.uptoBulk]
      have e : (List.range len).map (μ ∘ F) = (List.range len).map fun i => μ (F i) := rfl
      rw [e]; omega
    · by_cases h0 : len = 0
      · subst h0; exact .inl rfl
      · obtain ⟨b, o, spot⟩ := a
        have hs : spot = none := by
          obtain ⟨⟨c0, c1, h1, _⟩, _⟩ := hF 0 (by omega)
          simpa [Addr.add] using World.cell?_spot h1
        subst hs
        have hb0 : b < W.heap.size := by
          obtain ⟨⟨c0, c1, h1, _⟩, _⟩ := hF 0 (by omega)
          exact World.block_lt_of_cell? W _ h1
        refine .inr ⟨b, o, rfl, hb0, fun i z hz => ?_⟩
        have hi : i < len := by have := (List.getElem?_eq_some_iff.1 hz).1; simpa using this
        have e : z = F i := by
          rw [List.getElem?_map, List.getElem?_range hi] at hz
          exact (Option.some.inj hz).symm
        subst e
        obtain ⟨⟨c0, c1, h1, h2, h3⟩, _⟩ := hF i hi
        rw [in_add] at h1 h2
        rw [in_add] at h2
        exact ⟨c0, c1, h1, h2, h3⟩
theorem sum_one {α : Type} (l : List α) : (l.map fun _ => 1).sum = l.length := by
  induction l with
  | nil => rfl
  | cons a r ih => rw [List.map_cons, List.sum_cons, ih, List.length_cons]; omega
/-- What a series adds to the bulk. -/
def serMu (s : Ser) : Nat := s.1.length + s.2.length + 1
theorem ser_bulk {H : Type} {enc : TypeId × Value → H} {W : World} (n : Nat) (c0 c1 : Value) (y : DataW H × List MemPlace) (h : DataW.trod enc Try.prog W 0 (fun _ => true) true n 37 [c0, c1] = some y) (hw : Light 37 y.1) : ∃ z : Ser, (LabelsAt W W.heap.size c0 z.1 ∧ SamplesAt W W.heap.size c1 z.2) ∧ serMu z ≤ Rows.uptoBulk y.1 := by
  obtain ⟨y0, y1, n, rfl, hl, h0, h1⟩ := trod_struct2 Try.underlying37 h
  obtain ⟨l0, l1⟩ := hw.pair Try.underlying37
  simp only [cellsLs, cellsSs] at h0 h1 l0 l1
  obtain ⟨a, cap, l, e0, hc, hby, hcell⟩ := slice_bulk Try.underlying35 cellsLab (fun (z : Lab) c0 c1 => c0 = .string z.1 ∧ c1 = .string z.2) (fun _ => 1) (fun n c0 c1 y h hw => by
    obtain ⟨z, hz⟩ := lab_in n c0 c1 y h hw
    exact ⟨z, hz, bulk_pos _⟩) h0 l0
  obtain ⟨b, cap2, m, e1, hc2, hby2, hcell2⟩ := slice_bulk Try.underlying34 cellsSam (fun (z : Int × Nat) c0 c1 => c0 = .int .i64 z.1 ∧ c1 = .int .u64 (z.2 : Int) ∧ -9223372036854775808 ≤ z.1 ∧ z.1 ≤ 9223372036854775807 ∧ z.2 ≤ 18446744073709551615) (fun _ => 1) (fun n c0 c1 y h hw => by
    obtain ⟨z, hz⟩ := sam_in n c0 c1 y h hw
    exact ⟨z, hz, bulk_pos _⟩) h1 l1
  rw [sum_one] at hby hby2
  simp at e0 e1
  subst e0 e1
  refine ⟨(l, m), ⟨⟨a, cap, rfl, hc, ?_⟩, ⟨b, cap2, rfl, hc2, fun x hx => ?_, ?_⟩⟩, ?_⟩
  · rcases hcell with h | ⟨b, o, ha, hb, hh⟩
    · exact .inl h
    · refine .inr ⟨b, o, ha, hb, fun i x hx => ?_⟩
      obtain ⟨c0, c1, h1, h2, rfl, rfl⟩ := hh i x hx
      exact ⟨h1, h2⟩
  · rcases hcell2 with h | ⟨b, o, ha, hb, hh⟩
    · rw [h] at hx; cases hx
    · obtain ⟨i, hi, rfl⟩ := List.mem_iff_getElem.1 hx
      obtain ⟨c0, c1, _, _, _, _, h3⟩ := hh i _ (List.getElem?_eq_getElem hi)
      exact h3
  · rcases hcell2 with h | ⟨b, o, ha, hb, hh⟩
    · exact .inl h
    · refine .inr ⟨b, o, ha, hb, fun i x hx => ?_⟩
      obtain ⟨c0, c1, h1, h2, rfl, rfl, _⟩ := hh i x hx
      exact ⟨h1, h2⟩
  · show l.length + m.length + 1 ≤ Rows.uptoBulk (.agg [y0.1, y1.1])
    rw [Rows.uptoBulk, Rows.uptoBulkAll, Rows.uptoBulkAll, Rows.uptoBulkAll]; omega
theorem batch_bulk {H : Type} {enc : TypeId × Value → H} {W : World} {a0 : Option Addr} {len0 cap0 : Nat} {d : DataW H} {ps : List MemPlace} (h : DataW.Trod enc Try.prog W 0 (fun _ => true) true 22 (.slice a0 len0 cap0) d ps) (hw : Light 22 d) :
    ∃ bs : List Ser, BatchAt W W.heap.size (.slice a0 len0 cap0) bs ∧ (bs.map serMu).sum + 1 ≤ Rows.uptoBulk d := by
  obtain ⟨fuel, hf⟩ := h
  have hf' : DataW.trod enc Try.prog W 0 (fun _ => true) true fuel 22 [.slice a0 len0 cap0] = some (d, ps) := hf
  obtain ⟨a, cap, l, e0, hc, hby, hcell⟩ := slice_bulk Try.underlying22 cellsSer (fun (s : Ser) c0 c1 => LabelsAt W W.heap.size c0 s.1 ∧ SamplesAt W W.heap.size c1 s.2) serMu ser_bulk hf' hw
  simp only [List.cons.injEq, and_true] at e0
  rw [e0]
  refine ⟨l, ⟨a, cap, rfl, hc, ?_⟩, hby⟩
  rcases hcell with h | ⟨b, o, ha, hb, hh⟩
  · exact .inl h
  · refine .inr ⟨b, o, ha, hb, fun i x hx => ?_⟩
    obtain ⟨c0, c1, h1, h2, h3, h4⟩ := hh i x hx
    exact ⟨c0, c1, h1, h2, h3, h4⟩
end Go.Proofs.Ytcidgfdiacehmaa

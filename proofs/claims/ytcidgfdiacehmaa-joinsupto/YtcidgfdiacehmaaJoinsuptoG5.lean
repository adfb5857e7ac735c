/- 'choirlaw.Joins', for any two lists of series of bulk at most 1048576: Join answers the document's join or error, either way round; what is handed in stays, what comes out is its owner's. The second form's statement: its only condition is the row's own bound on the arguments' bulk. -/
import Derived.Test.YtcidgfdiacehmaaJoinsuptoG4
/- choirlaw's turned: the same series with other bits. -/
namespace Go.Proofs.Ytcidgfdiacehmaa
open Go.RowKit Go.Lib

/-- Other bits. -/
def flipS (l : List (Int × Nat)) : List (Int × Nat) := l.map fun x => (x.1, x.2 ^^^ 5)
def flipB (bs : List Ser) : List Ser := bs.map fun s => (s.1, flipS s.2)
theorem flipS_length (l : List (Int × Nat)) : (flipS l).length = l.length := by simp [flipS]
theorem flipB_length (bs : List Ser) : (flipB bs).length = bs.length := by simp [flipB]
theorem flip_le {x : Nat} (h : x ≤ 18446744073709551615) : x ^^^ 5 ≤ 18446744073709551615 := by
  have : x ^^^ 5 < 2 ^ 64 := Nat.xor_lt_two_pow (by omega) (by omega)
  omega
theorem xor5 (x : Nat) (h : x ≤ 18446744073709551615) : Go.bits .xor .u64 (x : Int) 5 = ((x ^^^ 5 : Nat) : Int) := bits_xor_u64_is x 5 h (by omega)

/-- The samples of one series, with other bits: nil stays nil. -/
def Flip (w : World) (base g : Nat) (p q : Value × Value) (x : Ser) : Prop :=
  q.1 = p.1 ∧ ((isNil p.2 = true ∧ q.2 = .slice none 0 0 ∧ x.2 = []) ∨ (isNil p.2 = false ∧ ∃ h, base ≤ h ∧ h ≠ g ∧ q.2 = .slice (some ⟨h, 0, none⟩) x.2.length x.2.length ∧ Blk w h 33 (serCells (samP (flipS x.2)))))
/-- What turned makes. -/
def TurnAt (w : World) (base : Nat) (v c : Value) (vals cv : List (Value × Value)) (bs : List Ser) : Prop :=
  (isNil v = true ∧ c = .slice none 0 0 ∧ bs = [] ∧ cv = []) ∨ (isNil v = false ∧ ∃ g, base ≤ g ∧ c = .slice (some ⟨g, 0, none⟩) bs.length bs.length ∧ cv.length = bs.length ∧ Blk w g 37 (serCells cv) ∧
    ∀ (i : Nat) (p q : Value × Value) (x : Ser), vals[i]? = some p → cv[i]? = some q → bs[i]? = some x → Flip w base g p q x)
theorem Flip.kept {w w' : World} {base g : Nat} {p q : Value × Value} {x : Ser} (h : Flip w base g p q x) (hk : ∀ k, q.2.ownBlock = some k → base ≤ k → w'.heap[k]? = w.heap[k]?) : Flip w' base g p q x := by
  refine ⟨h.1, ?_⟩
  rcases h.2 with h2 | ⟨h1, k, hb, hg, hq, hB⟩
  · exact .inl h2
  · exact .inr ⟨h1, k, hb, hg, hq, hB.kept (hk k (by rw [hq]; rfl) hb)⟩
theorem TurnAt.kept {w w' : World} {base : Nat} {v c : Value} {vals cv : List (Value × Value)} {bs : List Ser} (h : TurnAt w base v c vals cv bs) (hk : ∀ k, base ≤ k → k < w.heap.size → w'.heap[k]? = w.heap[k]?) : TurnAt w' base v c vals cv bs := by
  rcases h with h | ⟨h1, g, hg, hc, hl, hB, hf⟩
  · exact .inl h
  · refine .inr ⟨h1, g, hg, hc, hl, hB.kept (hk g hg hB.lt), fun i p q x hp hq hx => ?_⟩
    refine (hf i p q x hp hq hx).kept fun k e hb => hk k hb ?_
    rcases (hf i p q x hp hq hx).2 with ⟨_, e2, _⟩ | ⟨_, m, _, _, e2, hB2⟩
    · rw [e2] at e; cases e
    · rw [e2] at e; cases e; exact hB2.lt
theorem flipB_get {bs : List Ser} {i : Nat} {y : Ser} (h : (flipB bs)[i]? = some y) : ∃ x, bs[i]? = some x ∧ y = (x.1, flipS x.2) := by
  unfold flipB at h
  rw [List.getElem?_map] at h
  cases hx : bs[i]? with
  | none => rw [hx] at h; cases h
  | some x => rw [hx] at h; exact ⟨x, rfl, (Option.some.inj h).symm⟩
theorem samP_get {l : List (Int × Nat)} {i : Nat} {x : Int × Nat} (h : l[i]? = some x) : (samP l)[i]? = some (.int .i64 x.1, .int .u64 x.2) := by simp [samP, h]
theorem TurnAt.batchV {w : World} {base B : Nat} {v c : Value} {vals cv : List (Value × Value)} {bs : List Ser} (h : TurnAt w base v c vals cv bs) (hV : BatchV w B v vals bs) (hB : B ≤ w.heap.size) : BatchV w w.heap.size c cv (flipB bs) := by
  obtain ⟨hvl, a, cap, hv, hcap, h2, h3⟩ := hV
  rcases h with ⟨_, rfl, rfl, rfl⟩ | ⟨_, g, hg, rfl, hl, hBk, hf⟩
  · exact ⟨rfl, none, 0, rfl, Nat.le_refl _, .inl rfl, fun i p x hp => by simp at hp⟩
  · refine ⟨by rw [flipB_length]; exact hl, _, bs.length, by rw [flipB_length], by rw [flipB_length]; exact Nat.le_refl _, .inr ⟨g, 0, rfl, hBk.lt, fun i p hp => ?_⟩, fun i q y hq hy => ?_⟩
    · have := serCells_get hp
      rw [Nat.zero_add]
      exact ⟨hBk.cell this.1, hBk.cell this.2⟩
    · obtain ⟨x, hx, rfl⟩ := flipB_get hy
      obtain ⟨p, hp⟩ : ∃ p, vals[i]? = some p := ⟨_, List.getElem?_eq_getElem (by rw [hvl]; exact (List.getElem?_eq_some_iff.1 hx).1)⟩
      obtain ⟨e1, e2⟩ := hf i p q x hp hq hx
      obtain ⟨hLa, hSa⟩ := h3 i p x hp hx
      obtain ⟨sa, sc, _, _, hrg, _⟩ := hSa
      refine ⟨?_, ?_⟩
      · rw [e1]
        obtain ⟨la, lc, hv1, hc1, h4⟩ := hLa
        refine ⟨la, lc, hv1, hc1, ?_⟩
        rcases h4 with h4 | ⟨b, o, ha, hb, hc⟩
        · exact .inl h4
        · exact .inr ⟨b, o, ha, by omega, hc⟩
      · have hrg2 : ∀ y ∈ flipS x.2, -9223372036854775808 ≤ y.1 ∧ y.1 ≤ 9223372036854775807 ∧ y.2 ≤ 18446744073709551615 := fun y hy => by
          obtain ⟨z, hz, rfl⟩ := List.mem_map.1 hy
          have := hrg z hz
          exact ⟨this.1, this.2.1, flip_le this.2.2⟩
        rcases e2 with ⟨_, e2, e3⟩ | ⟨_, k, _, _, e2, hB2⟩
        · rw [e2, e3]
          exact ⟨none, 0, rfl, Nat.le_refl _, (fun y hy => by simp [flipS] at hy), .inl rfl⟩
        · rw [e2]
          refine ⟨some ⟨k, 0, none⟩, x.2.length, by rw [flipS_length], by rw [flipS_length]; exact Nat.le_refl _, hrg2, .inr ⟨k, 0, rfl, hB2.lt, fun j z hz => ?_⟩⟩
          have := serCells_get (samP_get hz)
          rw [Nat.zero_add]
          exact ⟨hB2.cell this.1, hB2.cell this.2⟩
theorem TurnAt.nil {w : World} {base : Nat} {v c : Value} {vals cv : List (Value × Value)} {bs : List Ser} (h : TurnAt w base v c vals cv bs) : isNil c = isNil v := by
  rcases h with ⟨h1, rfl, _⟩ | ⟨h1, g, _, rfl, _⟩ <;> rw [h1] <;> rfl
theorem Flip.nils {w : World} {base g : Nat} {p q : Value × Value} {x : Ser} (h : Flip w base g p q x) : isNil q.1 = isNil p.1 ∧ isNil q.2 = isNil p.2 := by
  refine ⟨by rw [h.1], ?_⟩
  rcases h.2 with ⟨h1, h2, _⟩ | ⟨h1, k, _, _, h2, _⟩ <;> rw [h1, h2] <;> rfl
end Go.Proofs.Ytcidgfdiacehmaa

/- choirlaw's turned: the walk. -/
namespace Go.Proofs.Ytcidgfdiacehmaa
open Go.RowKit Go.Lib

/-- How far turned has come. -/
structure TStage (w W : World) (g : Nat) (vals : List (Value × Value)) (bs : List Ser) (cv : List (Value × Value)) : Prop where
  blk : Blk W g 37 (serCells (cv ++ List.replicate (bs.length - cv.length) nilP))
  below : Below w.heap.size w W
  base : w.heap.size ≤ g
  flip : ∀ (i : Nat) (p q : Value × Value) (x : Ser), vals[i]? = some p → cv[i]? = some q → bs[i]? = some x → Flip W w.heap.size g p q x
theorem tstage_set (cv : List (Value × Value)) (n : Nat) (p : Value × Value) (h : cv.length < n) :
    (cv ++ List.replicate (n - cv.length) nilP)[cv.length]? = some nilP ∧ (cv ++ List.replicate (n - cv.length) nilP).set cv.length p = (cv ++ [p]) ++ List.replicate (n - (cv ++ [p]).length) nilP := by
  have e : n - cv.length = (n - (cv.length + 1)) + 1 := by omega
  rw [e, List.replicate_succ]
  constructor
  · rw [List.getElem?_append_right (Nat.le_refl _)]; simp
  · rw [List.set_append_right _ _ (Nat.le_refl _)]; simp

/-- One series more, without samples. -/
theorem TStage.bare {w W : World} {g : Nat} {vals : List (Value × Value)} {bs : List Ser} {cv : List (Value × Value)} (h : TStage w W g vals bs cv) (hlt : cv.length < bs.length) {p : Value × Value} {x : Ser} (hp : vals[cv.length]? = some p) (hx : bs[cv.length]? = some x) (hn : isNil p.2 = true) (h0 : x.2 = []) :
    TStage w (W.setCell ⟨g, cv.length * 2, none⟩ p.1) g vals bs (cv ++ [(p.1, .slice none 0 0)]) := by
  have hs := tstage_set cv bs.length (p.1, .slice none 0 0) hlt
  have e1 := (serCells_set h.blk cv.length hs.1 p.1).1
  rw [show ((p.1, nilP.2) : Value × Value) = (p.1, .slice none 0 0) from rfl, hs.2] at e1
  refine ⟨e1, h.below.setCell h.base _, h.base, fun i q r y hq hr hy => ?_⟩
  rcases getElem?_snoc hr with ⟨hi, hr⟩ | ⟨rfl, rfl⟩
  · refine (h.flip i q r y hq hr hy).kept fun k e hb => Below.heap_setCell _ _ _ k ?_
    rcases (h.flip i q r y hq hr hy).2 with ⟨_, e2, _⟩ | ⟨_, m, _, hm, e2, _⟩
    · rw [e2] at e; cases e
    · rw [e2] at e; cases e; exact hm
  · rw [hp] at hq; cases hq
    rw [hx] at hy; cases hy
    exact ⟨rfl, .inl ⟨hn, rfl, h0⟩⟩
/-- The samples of one series as they are filled. -/
structure Fill (w W1 W : World) (h : Nat) (l : List (Int × Nat)) (j : Nat) : Prop where
  blk : Blk W h 33 (serCells (samP (flipS (l.take j)) ++ List.replicate (l.length - j) samZ))
  rest : ∀ k, k ≠ h → W.heap[k]? = W1.heap[k]?
  below : Below w.heap.size w W
theorem Fill.drew {w W1 W : World} {h : Nat} {l : List (Int × Nat)} {j : Nat} (hf : Fill w W1 W h l j) : Fill w W1 W.drew h l j := ⟨hf.blk, hf.rest, hf.below.drew⟩
theorem Fill.step {w W1 W : World} {h : Nat} {l : List (Int × Nat)} {j : Nat} (hf : Fill w W1 W h l j) (hb : w.heap.size ≤ h) {x : Int × Nat} (hx : l[j]? = some x) :
    Fill w W1 ((W.setCell ⟨h, j * 2, none⟩ (.int .i64 x.1)).setCell ⟨h, j * 2 + 1, none⟩ (.int .u64 ((x.2 ^^^ 5 : Nat) : Int))) h l (j + 1) := by
  have hj := (List.getElem?_eq_some_iff.1 hx).1
  have hlen : (samP (flipS (l.take j))).length = j := by rw [samP_length, flipS_length, List.length_take]; omega
  have e : l.length - j = (l.length - (j + 1)) + 1 := by omega
  have h1 : (samP (flipS (l.take j)) ++ List.replicate (l.length - j) samZ)[j]? = some samZ := by
    rw [List.getElem?_append_right (by omega), hlen, Nat.sub_self, e, List.replicate_succ]; rfl
  have b1 := (serCells_set hf.blk j h1 (.int .i64 x.1)).1
  have h2 : ((samP (flipS (l.take j)) ++ List.replicate (l.length - j) samZ).set j (.int .i64 x.1, samZ.2))[j]? = some (.int .i64 x.1, samZ.2) := by
    rw [List.getElem?_set_self (List.getElem?_eq_some_iff.1 h1).1]
  have b2 := (serCells_set b1 j h2 (.int .u64 ((x.2 ^^^ 5 : Nat) : Int))).2
  rw [List.set_set, List.set_append_right _ _ (by omega), hlen, Nat.sub_self, e, List.replicate_succ, List.set_cons_zero] at b2
  refine ⟨?_, fun k hk => ?_, (hf.below.setCell hb _).setCell hb _⟩
  · have e2 : samP (flipS (l.take (j + 1))) = samP (flipS (l.take j)) ++ [(.int .i64 x.1, .int .u64 ((x.2 ^^^ 5 : Nat) : Int))] := by
      rw [take_more l j x hx]; simp [flipS, samP]
    rw [e2, List.append_assoc]; exact b2
  · rw [Below.heap_setCell _ _ _ k hk, Below.heap_setCell _ _ _ k hk]; exact hf.rest k hk
/-- One series more, its samples filled. -/
theorem TStage.full {w W W1 W2 : World} {g : Nat} {vals : List (Value × Value)} {bs : List Ser} {cv : List (Value × Value)} (h : TStage w W g vals bs cv) (hlt : cv.length < bs.length) {p : Value × Value} {x : Ser} (hp : vals[cv.length]? = some p) (hx : bs[cv.length]? = some x) (hn : isNil p.2 = false)
    (h1 : W1 = ((W.setCell ⟨g, cv.length * 2, none⟩ p.1).setCell ⟨g, cv.length * 2 + 1, none⟩ (.slice (some ⟨W.heap.size, 0, none⟩) x.2.length x.2.length)).alloc (.cells (serCells (List.replicate x.2.length samZ)).toArray 33))
    (hF : Fill w W1 W2 W.heap.size x.2 x.2.length) : TStage w W2 g vals bs (cv ++ [(p.1, .slice (some ⟨W.heap.size, 0, none⟩) x.2.length x.2.length)]) := by
  have hgl := h.blk.lt
  have hs := tstage_set cv bs.length (p.1, .slice (some ⟨W.heap.size, 0, none⟩) x.2.length x.2.length) hlt
  have e1 := (serCells_set h.blk cv.length hs.1 p.1).1
  have hs1 : ((cv ++ List.replicate (bs.length - cv.length) nilP).set cv.length (p.1, nilP.2))[cv.length]? = some (p.1, nilP.2) := by
    rw [List.getElem?_set_self (List.getElem?_eq_some_iff.1 hs.1).1]
  have e2 := (serCells_set e1 cv.length hs1 (.slice (some ⟨W.heap.size, 0, none⟩) x.2.length x.2.length)).2
  rw [List.set_set, hs.2] at e2
  have hk : ∀ k, k ≠ g → k < W.heap.size → W2.heap[k]? = W.heap[k]? := fun k hk hl => by
    rw [hF.rest k (by omega), h1]
    exact (heap_alloc_old _ _ (by simpa using hl)).trans (by rw [Below.heap_setCell _ _ _ k hk, Below.heap_setCell _ _ _ k hk])
  refine ⟨?_, hF.below, h.base, fun i q r y hq hr hy => ?_⟩
  · refine (e2.alloc (.cells (serCells (List.replicate x.2.length samZ)).toArray 33)).kept ?_
    rw [hF.rest g (by omega), h1]
  · rcases getElem?_snoc hr with ⟨hi, hr⟩ | ⟨rfl, rfl⟩
    · refine (h.flip i q r y hq hr hy).kept fun k e hb => ?_
      rcases (h.flip i q r y hq hr hy).2 with ⟨_, e2, _⟩ | ⟨_, m, _, hm, e2, hB2⟩
      · rw [e2] at e; cases e
      · rw [e2] at e; cases e; exact hk _ hm hB2.lt
    · rw [hp] at hq; cases hq
      rw [hx] at hy; cases hy
      refine ⟨rfl, .inr ⟨hn, W.heap.size, h.below.size, by omega, rfl, ?_⟩⟩
      have := hF.blk
      rw [List.take_length, Nat.sub_self, List.replicate_zero, List.append_nil] at this
      exact this

set_option maxRecDepth 100000 in
set_option maxHeartbeats 1000000 in
theorem lturned_any (B : Nat) (v : Value) (vals : List (Value × Value)) (bs : List Ser) (w : World) (hV : BatchV w B v vals bs) (hB : B ≤ w.heap.size) (hl : bs.length ≤ 3000000000000) (hll : ∀ s ∈ bs, s.2.length ≤ 8800000000000) :
    Calls Try.prog 17 #[v] w fun e w' => ∃ c, e = .returned c ∧ (∃ cv, TurnAt w' w.heap.size v c vals cv bs) ∧ Below w.heap.size w w' := by
  obtain ⟨i0, hi, hz0, hz1, hz2⟩ := info_parts Try.infoSer
  obtain ⟨j0, hj, hy0, hy1, hy2⟩ := info_parts Try.infoSam
  obtain ⟨hvl, a, cap, rfl, hcap, h2, h3⟩ := id hV
  have hnil : ∀ (W : World) a n c, (binOp .eql 22 (.slice a n c) (.slice none 0 0)).run Try.prog W = .ok (.bool a.isNone) W := fun W a n c => Lib.run_eql_slice_nil W 22 37 a n c 0 0 Try.underlying22
  have hnn : ∀ (W : World) a n c, (binOp .neq 34 (.slice a n c) (.slice none 0 0)).run Try.prog W = .ok (.bool (!a.isNone)) W := fun W a n c => run_neq_slice_nil_any W 34 33 a n c 0 0 Try.underlying34
  cases a with
  | none =>
    have hl0 : bs = [] := by
      rcases h2 with h | ⟨b, o, h, _⟩
      · exact h
      · cases h
    subst hl0
    clear hV h2 h3
    go_enter Try.func17, Try.ntmps17
    go_wp2
    go_ret
    exact ⟨_, rfl, ⟨[], .inl ⟨rfl, rfl, rfl, rfl⟩⟩, Below.refl _ _⟩
  | some a =>
    obtain ⟨w0, hmk, HS0⟩ : ∃ w0, (Instr.makeSlice 22 (.int .i64 (bs.length : Int)) (.int .i64 (bs.length : Int))).run Try.prog w = .ok (.slice (some ⟨w.heap.size, 0, none⟩) bs.length bs.length) w0 ∧ Hid (TStage w w0 w.heap.size vals bs []) := by
      have hm := run_make (P := Try.prog) w 22 37 i0 (.agg #[nilP.1, nilP.2]) Try.underlying22 hi hz0 .i64 .i64 (bs.length : Int) (bs.length : Int) (by omega) (by omega) (by rw [hz2]; omega) (by omega)
      have e9 : (Value.agg #[nilP.1, nilP.2]).cells = #[nilP.1, nilP.2] := rfl
      rw [Int.toNat_natCast, hz1, e9, ← serCells_rep_arr nilP bs.length] at hm
      refine ⟨_, hm, ⟨?_, (Below.refl _ _).alloc (Nat.le_refl _) _, Nat.le_refl _, (fun i p q x _ h => by simp at h)⟩⟩
      have := Blk.new w 37 (serCells (List.replicate bs.length nilP))
      simpa using this
    have HV := hide hV
    have HLL := hide hll
    clear hV h2 h3 hi hz0 hz1 hz2 hll
    go_enter Try.func17, Try.ntmps17
    go_wp2
    clear hmk
    go_loopw [4, 5] (fun i _ wr => ∃ (cv : List (Value × Value)), i = .int .i64 ((cv.length : Nat) : Int) ∧ cv.length ≤ bs.length ∧ Hid (TStage w wr w.heap.size vals bs cv)) (fun i _ _ => bs.length - (intOf i).toNat)
    case atStart => exact ⟨[], rfl, by simp, HS0.out⟩
    case round =>
      generalize wr = W0 at *
      obtain ⟨cv, rfl, h1, HS⟩ := hrel
      clear HS0
      by_cases hin : cv.length < bs.length
      · obtain ⟨x, hx⟩ : ∃ x, bs[cv.length]? = some x := ⟨_, List.getElem?_eq_getElem hin⟩
        obtain ⟨p, hp⟩ : ∃ p, vals[cv.length]? = some p := ⟨_, List.getElem?_eq_getElem (by omega)⟩
        have hbl := HS.out.below
        have hsz := hbl.size
        have hgl := HS.out.blk.lt
        obtain ⟨_, _, _, hv4, _, h5, h6⟩ := HV.out
        cases hv4
        obtain ⟨hLa, hSa⟩ := h6 _ p x hp hx
        have hcc : ∃ b o, a = ⟨b, o, none⟩ ∧ b < B ∧ w.cell? ⟨b, o + cv.length * 2, none⟩ = some p.1 ∧ w.cell? ⟨b, o + cv.length * 2 + 1, none⟩ = some p.2 := by
          rcases h5 with h5 | ⟨b, o, ha, hb, hc⟩
          · rw [h5] at hin; simp at hin
          · exact ⟨b, o, Option.some.inj ha, hb, hc _ p hp⟩
        obtain ⟨b, o, rfl, hbB, c1, c2⟩ := hcc
        have hbw : b < w.heap.size := by omega
        have m1 := (hbl.cell (p := ⟨b, o + cv.length * 2, none⟩) hbw).trans c1
        have m2 := (hbl.cell (p := ⟨b, o + cv.length * 2 + 1, none⟩) hbw).trans c2
        have hxl := HLL.out x (List.mem_of_getElem? hx)
        obtain ⟨la, lc, hpl, _⟩ := hLa
        have HSa := hide hSa
        obtain ⟨sa, sc, hps, _⟩ := hSa
        obtain ⟨p1, p2⟩ := p
        simp only at hpl hps
        subst hpl hps
        simp only at m1 m2
        have hs := tstage_set cv bs.length (.slice none 0 0, .slice none 0 0) hin
        have hg := serCells_get hs.1
        have g1 := HS.out.blk.cell hg.1
        have g2 := HS.out.blk.cell hg.2
        have f1 := HS.out.blk.frozen (cv.length * 2)
        have f2 := HS.out.blk.frozen (cv.length * 2 + 1)
        simp only [nilP] at g1 g2
        have HX := hide hx
        have HP := hide hp
        have k0 : (0 : Int) ≤ (cv.length : Int) := by omega
        have k1 : (cv.length : Int) < (bs.length : Int) := by omega
        have hbne : ¬ b = w.heap.size := by omega
        have hbne2 : ¬ w.heap.size = b := by omega
        clear c1 c2 h5 h6 hs hg hx hp hbl HV HLL
        cases sa with
        | none =>
          have h0 : x.2 = [] := by
            obtain ⟨_, _, hv5, _, _, h5⟩ := HSa.out
            cases hv5
            rcases h5 with h5 | ⟨b, o, h5, _⟩
            · exact h5
            · cases h5
          have HN := hide (HS.out.bare hin HP.out HX.out rfl h0)
          have hl0 : x.2.length = 0 := by rw [h0]; rfl
          clear HSa h0
          rw [hl0] at m2
          simp only at HN
          go_wp2
          go_loopw [5] (fun i wr => i = .int .i64 0 ∧ wr = W0.setCell ⟨w.heap.size, cv.length * 2, none⟩ (.slice la x.1.length lc)) (fun _ _ => 0)
          case atStart => exact ⟨rfl, rfl⟩
          case round =>
            obtain ⟨rfl, rfl⟩ := hrel
            go_wp2
            go_roundw
            case rel => exact ⟨cv ++ [(Value.slice la x.1.length lc, Value.slice none 0 0)], by simp, by simp; omega, HN.out⟩
            case measure => simp [intOf]; omega
        | some sa =>
          have hmk : ∀ W : World, (Instr.makeSlice 34 (.int .i64 (x.2.length : Int)) (.int .i64 (x.2.length : Int))).run Try.prog W = .ok (.slice (some ⟨W.heap.size, 0, none⟩) x.2.length x.2.length) (W.alloc (.cells (serCells (List.replicate x.2.length samZ)).toArray 33)) := fun W => by
            have hm := run_make (P := Try.prog) W 34 33 j0 (.agg #[samZ.1, samZ.2]) Try.underlying34 hj hy0 .i64 .i64 (x.2.length : Int) (x.2.length : Int) (by omega) (by omega) (by rw [hy2]; omega) (by omega)
            have e9 : (Value.agg #[samZ.1, samZ.2]).cells = #[samZ.1, samZ.2] := rfl
            rw [Int.toNat_natCast, hy1, e9, ← serCells_rep_arr samZ x.2.length] at hm
            exact hm
          obtain ⟨W1, hW1⟩ : ∃ W1, W1 = ((W0.setCell ⟨w.heap.size, cv.length * 2, none⟩ (.slice la x.1.length lc)).setCell ⟨w.heap.size, cv.length * 2 + 1, none⟩ (.slice (some ⟨W0.heap.size, 0, none⟩) x.2.length x.2.length)).alloc (.cells (serCells (List.replicate x.2.length samZ)).toArray 33) := ⟨_, rfl⟩
          have hF0 : Fill w W1 W1 W0.heap.size x.2 0 := by
            refine ⟨?_, fun _ _ => rfl, ?_⟩
            · have := Blk.new ((W0.setCell ⟨w.heap.size, cv.length * 2, none⟩ (.slice la x.1.length lc)).setCell ⟨w.heap.size, cv.length * 2 + 1, none⟩ (.slice (some ⟨W0.heap.size, 0, none⟩) x.2.length x.2.length)) 33 (serCells (List.replicate x.2.length samZ))
              rw [hW1]
              simpa [flipS, samP] using this
            · rw [hW1]
              exact ((HS.out.below.setCell (Nat.le_refl _) _).setCell (Nat.le_refl _) _).alloc (by simpa using hsz) _
          have HF0 := hide hF0
          have HW1 := hide hW1
          have hb1 : W1.cell? ⟨b, o + cv.length * 2 + 1, none⟩ = some (.slice (some sa) x.2.length sc) := by
            rw [← m2]
            exact World.cell?_of_block (a := ⟨b, o + cv.length * 2 + 1, none⟩) ((hF0.below.block b hbw).trans (HS.out.below.block b hbw).symm)
          have hg2 : W1.cell? ⟨w.heap.size, cv.length * 2 + 1, none⟩ = some (.slice (some ⟨W0.heap.size, 0, none⟩) x.2.length x.2.length) := by
            have hs := tstage_set cv bs.length (.slice none 0 0, .slice none 0 0) hin
            have e1 := (serCells_set HS.out.blk cv.length hs.1 (.slice la x.1.length lc)).1
            have hs1 : ((cv ++ List.replicate (bs.length - cv.length) nilP).set cv.length (.slice la x.1.length lc, nilP.2))[cv.length]? = some (.slice la x.1.length lc, nilP.2) := by
              rw [List.getElem?_set_self (List.getElem?_eq_some_iff.1 hs.1).1]
            have e2 := (serCells_set e1 cv.length hs1 (.slice (some ⟨W0.heap.size, 0, none⟩) x.2.length x.2.length)).2.alloc (.cells (serCells (List.replicate x.2.length samZ)).toArray 33)
            rw [hW1]
            refine e2.cell (serCells_get (i := cv.length) (p := (.slice la x.1.length lc, .slice (some ⟨W0.heap.size, 0, none⟩) x.2.length x.2.length)) ?_).2
            rw [List.getElem?_set_self (by simpa using (List.getElem?_eq_some_iff.1 hs.1).1)]
          go_wp2
          rw [← HW1.out]
          clear hW1 hF0 hmk g1 g2 f1 f2 m1 m2
          go_loopw [5] (fun i wr => ∃ j : Nat, j ≤ x.2.length ∧ i = .int .i64 j ∧ Hid (Fill w W1 wr W0.heap.size x.2 j)) (fun i _ => x.2.length - (intOf i).toNat)
          case atStart => exact ⟨0, Nat.zero_le _, rfl, HF0.out⟩
          case round =>
            obtain ⟨j, hj, rfl, HF⟩ := hrel
            clear HF0
            have m2 := (World.cell?_of_block (a := ⟨b, o + cv.length * 2 + 1, none⟩) (HF.out.rest b (by omega))).trans hb1
            by_cases hlt : j < x.2.length
            · obtain ⟨⟨x1, x2⟩, hy⟩ : ∃ y, x.2[j]? = some y := ⟨_, List.getElem?_eq_getElem hlt⟩
              have g2 := (World.cell?_of_block (a := ⟨w.heap.size, cv.length * 2 + 1, none⟩) (HF.out.rest w.heap.size (by omega))).trans hg2
              obtain ⟨sb, so, he, u1, u2⟩ := samGet HSa.out hy
              cases he
              have hsb : sb < B := by
                obtain ⟨_, _, hv5, _, _, h5⟩ := HSa.out
                cases hv5
                rcases h5 with h5 | ⟨b', o', h5, h6, _⟩
                · rw [h5] at hy; cases hy
                · cases h5; exact h6
              have hx2 : x2 ≤ 18446744073709551615 := by
                obtain ⟨_, _, _, _, h5, _⟩ := HSa.out
                exact (h5 (x1, x2) (List.mem_of_getElem? hy)).2.2
              have v1 := (HF.out.below.cell (p := ⟨sb, so + j * 2, none⟩) (by show sb < w.heap.size; omega)).trans u1
              have v2 := (HF.out.below.cell (p := ⟨sb, so + j * 2 + 1, none⟩) (by show sb < w.heap.size; omega)).trans u2
              have hxr := xor5 x2 hx2
              have HN := hide (HF.out.step (by omega) hy)
              simp only at HN v1 v2
              have hcell : (samP (flipS (x.2.take j)) ++ List.replicate (x.2.length - j) samZ)[j]? = some samZ := by
                have hlen : (samP (flipS (x.2.take j))).length = j := by rw [samP_length, flipS_length, List.length_take]; omega
                rw [List.getElem?_append_right (by omega), hlen, Nat.sub_self, List.getElem?_replicate, if_pos (by omega)]
              have c1 := HF.out.blk.cell (serCells_get hcell).1
              have c2 := HF.out.blk.cell (serCells_get hcell).2
              have f1 := HF.out.blk.frozen (j * 2)
              have f2 := HF.out.blk.frozen (j * 2 + 1)
              simp only [samZ] at c1 c2
              have n1 : ¬ W0.heap.size = b := by omega
              have n2 : ¬ W0.heap.size = w.heap.size := by omega
              have n3 : ¬ W0.heap.size = sb := by omega
              have k2 : (j : Int) < (x.2.length : Int) := by omega
              have k3 : (0 : Int) ≤ (j : Int) := by omega
              clear hy HF u1 u2 hcell HW1 hb1 hg2
              go_wp2
              as_aux_lemma =>
                go_region_held3 (fun w' => w'.cell? ⟨b, o + cv.length * 2 + 1, none⟩ = some (.slice (some ⟨sb, so, none⟩) x.2.length sc) ∧ w'.cell? ⟨w.heap.size, cv.length * 2 + 1, none⟩ = some (.slice (some ⟨W0.heap.size, 0, none⟩) x.2.length x.2.length) ∧ w'.cell? ⟨sb, so + j * 2, none⟩ = some (.int .i64 x1) ∧ w'.cell? ⟨sb, so + j * 2 + 1, none⟩ = some (.int .u64 x2)) (go_keep) (fail)
                all_goals
                  go_wp2
                  go_roundw
                  case rel => exact ⟨j + 1, by omega, by go_num, HN.out.drew⟩
                  case measure => simp [intOf]; omega
            · have hje : j = x.2.length := by omega
              subst hje
              have HN := hide (HS.out.full hin HP.out HX.out rfl HW1.out HF.out)
              simp only at HN
              clear HF
              go_wp2
              go_roundw
              case rel => exact ⟨cv ++ [(Value.slice la x.1.length lc, Value.slice (some ⟨W0.heap.size, 0, none⟩) x.2.length x.2.length)], by simp, by simp; omega, HN.out⟩
              case measure => simp [intOf]; omega
      · have he : cv.length = bs.length := by omega
        have hfin : TurnAt W0 w.heap.size (.slice (some a) bs.length cap) (.slice (some ⟨w.heap.size, 0, none⟩) bs.length bs.length) vals cv bs := by
          refine .inr ⟨rfl, w.heap.size, Nat.le_refl _, rfl, he, ?_, HS.out.flip⟩
          have h := HS.out.blk
          rw [he, Nat.sub_self, List.replicate_zero, List.append_nil] at h
          exact h
        have HF := hide hfin
        have HBl := hide HS.out.below
        clear hfin HS HV HLL
        go_wp2
        go_ret
        exact ⟨_, rfl, ⟨cv, HF.out⟩, HBl.out⟩
end Go.Proofs.Ytcidgfdiacehmaa

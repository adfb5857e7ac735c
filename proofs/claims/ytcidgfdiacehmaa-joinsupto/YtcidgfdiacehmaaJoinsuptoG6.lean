/- 'choirlaw.Joins', for any two lists of series of bulk at most 1048576: Join answers the document's join or error, either way round; what is handed in stays, what comes out is its owner's. The second form's statement: its only condition is the row's own bound on the arguments' bulk. -/
import Derived.Test.YtcidgfdiacehmaaJoinsuptoG5
/- choirlaw's over: what roomy made is written over. -/
namespace Go.Proofs.Ytcidgfdiacehmaa
open Go.RowKit Go.Lib

/-- What roomy made, its samples those of other series from a number on. -/
def mixB (bs : List Ser) (k : Nat) : List Ser := flipB (bs.take k) ++ bs.drop k
/-- One block's content while it is written over. -/
def mixS (l : List (Int × Nat)) (j : Nat) : List (Int × Nat) := flipS (l.take j) ++ l.drop j
theorem mixS_length (l : List (Int × Nat)) (j : Nat) : (mixS l j).length = l.length := by simp [mixS, flipS]; omega
theorem mixS_zero (l : List (Int × Nat)) : mixS l 0 = l := by simp [mixS, flipS]
theorem mixS_all (l : List (Int × Nat)) : mixS l l.length = flipS l := by simp [mixS]
theorem mixS_get {l : List (Int × Nat)} {j : Nat} {x : Int × Nat} (h : l[j]? = some x) : (mixS l j)[j]? = some x := by
  have hj := (List.getElem?_eq_some_iff.1 h).1
  unfold mixS
  rw [List.getElem?_append_right (by simp [flipS]; omega)]
  simp [flipS, List.getElem?_drop, Nat.min_eq_left (Nat.le_of_lt hj), h]
theorem mixS_step {l : List (Int × Nat)} {j : Nat} {x : Int × Nat} (h : l[j]? = some x) : (mixS l j).set j (x.1, x.2 ^^^ 5) = mixS l (j + 1) := by
  have hj := (List.getElem?_eq_some_iff.1 h).1
  unfold mixS
  have hl : (flipS (l.take j)).length = j := by rw [flipS_length, List.length_take]; omega
  rw [List.set_append_right _ _ (by omega), hl, Nat.sub_self, take_more l j x h, List.drop_eq_getElem_cons hj, List.set_cons_zero]
  simp [flipS]
theorem samP_set (l : List (Int × Nat)) (j : Nat) (x : Int × Nat) : (samP l).set j (.int .i64 x.1, .int .u64 x.2) = samP (l.set j x) := by simp [samP, List.map_set]
/-- Blocks that hold samples. -/
def sBlocks (rv : List (Value × Value)) (k : Nat) : Prop := ∃ (i : Nat) (q : Value × Value), rv[i]? = some q ∧ q.2.ownBlock = some k
/-- How far over has come: f: what series number i now has. -/
structure OS (w W : World) (base : Nat) (bs : List Ser) (rv : List (Value × Value)) (f : Nat → List (Int × Nat) → List (Int × Nat)) : Prop where
  below : Below base w W
  rest : ∀ k, ¬ sBlocks rv k → W.heap[k]? = w.heap[k]?
  size : W.heap.size = w.heap.size
  done : ∀ (i : Nat) (q : Value × Value) (x : Ser) (k : Nat), rv[i]? = some q → bs[i]? = some x → q.2.ownBlock = some k → Blk W k 33 (serCells (roomP (samP (f i x.2)) samX samZ 8))
theorem OS.congr {w W : World} {base : Nat} {bs : List Ser} {rv : List (Value × Value)} {f f' : Nat → List (Int × Nat) → List (Int × Nat)} (h : OS w W base bs rv f) (he : ∀ i x, bs[i]? = some x → f' i x.2 = f i x.2) : OS w W base bs rv f' :=
  ⟨h.below, h.rest, h.size, fun i q x k hq hx hk => by rw [he i x hx]; exact h.done i q x k hq hx hk⟩
theorem OS.drew {w W : World} {base : Nat} {bs : List Ser} {rv : List (Value × Value)} {f : Nat → List (Int × Nat) → List (Int × Nat)} (h : OS w W base bs rv f) : OS w W.drew base bs rv f := ⟨h.below.drew, h.rest, h.size, h.done⟩
/-- One sample more. -/
theorem OS.step {w W : World} {base g m j k : Nat} {bs : List Ser} {rv : List (Value × Value)} {bb : List Nat} {f f' : Nat → List (Int × Nat) → List (Int × Nat)} {q : Value × Value} {x : Ser} {y : Int × Nat} (h : OS w W base bs rv f) (ha : Apart rv g bb) (hq : rv[m]? = some q) (hx : bs[m]? = some x) (hk : q.2.ownBlock = some k) (hb : base ≤ k)
    (hy : x.2[j]? = some y) (hf : f m x.2 = mixS x.2 j) (hf' : f' m x.2 = mixS x.2 (j + 1)) (ho : ∀ i, i ≠ m → f' i = f i) : OS w (W.setCell ⟨k, j * 2 + 1, none⟩ (.int .u64 ((y.2 ^^^ 5 : Nat) : Int))) base bs rv f' := by
  refine ⟨h.below.setCell hb _, fun p hp => ?_, by simpa using h.size, fun i r z p hr hz hp => ?_⟩
  · have hne : p ≠ k := fun e => hp ⟨m, q, hq, by rw [hk, e]⟩
    rw [Below.heap_setCell _ _ _ p hne]; exact h.rest p hp
  · by_cases e : i = m
    · subst e
      rw [hq] at hr; cases hr
      rw [hx] at hz; cases hz
      rw [hk] at hp; cases hp
      have hB := h.done i q x k hq hx hk
      rw [hf] at hB
      rw [hf']
      have hg : (roomP (samP (mixS x.2 j)) samX samZ 8)[j]? = some (.int .i64 y.1, .int .u64 y.2) := roomP_front _ _ _ _ (samP_get (mixS_get hy))
      have hs := (serCells_set hB j hg (.int .u64 ((y.2 ^^^ 5 : Nat) : Int))).2
      have hj : j < (samP (mixS x.2 j)).length := by rw [samP_length, mixS_length]; exact (List.getElem?_eq_some_iff.1 hy).1
      rw [roomP, List.set_append_left _ _ hj] at hs
      have e3 := samP_set (mixS x.2 j) j (y.1, y.2 ^^^ 5)
      rw [mixS_step hy] at e3
      simp only at e3
      rw [e3] at hs
      exact hs
    · rw [ho i e]
      have hne : p ≠ k := fun e2 => ((ha m q k hq hk).2.2 i r hr).2 e (by rw [hp, e2])
      exact (h.done i r z p hr hz hp).other hne _
theorem RoomB.with {W : World} {base : Nat} {v v' r : Value} {vals vals' : List (Value × Value)} {bs : List Ser} {rv : List (Value × Value)} (h : RoomB W base v r vals bs rv) (hn : isNil v' = isNil v) (hvl : vals.length = bs.length) (hv : ∀ (i : Nat) (p q : Value × Value), vals[i]? = some p → vals'[i]? = some q → isNil q.1 = isNil p.1 ∧ isNil q.2 = isNil p.2) : RoomB W base v' r vals' bs rv := by
  rcases h with ⟨h1, h2⟩ | ⟨h1, g, bb, hg, hr, hl, hb, hB, hbs, hro, ha⟩
  · exact .inl ⟨by rw [hn]; exact h1, h2⟩
  · refine .inr ⟨by rw [hn]; exact h1, g, bb, hg, hr, hl, hb, hB, hbs, fun i p' q x hp' hq hx => ?_, ha⟩
    obtain ⟨p, hp⟩ : ∃ p, vals[i]? = some p := ⟨_, List.getElem?_eq_getElem (by rw [hvl]; exact (List.getElem?_eq_some_iff.1 hx).1)⟩
    have hh := hro i p q x hp hq hx
    obtain ⟨e1, e2⟩ := hv i p p' hp hp'
    refine ⟨?_, ?_⟩
    · rcases hh.labels with ⟨a1, a2⟩ | ⟨a1, a2⟩
      · exact .inl ⟨by rw [e1]; exact a1, a2⟩
      · exact .inr ⟨by rw [e1]; exact a1, a2⟩
    · rcases hh.samples with ⟨a1, a2⟩ | ⟨a1, a2⟩
      · exact .inl ⟨by rw [e2]; exact a1, a2⟩
      · exact .inr ⟨by rw [e2]; exact a1, a2⟩
/-- Written over to the end. -/
theorem OS.fin {w W : World} {base : Nat} {v r : Value} {vals : List (Value × Value)} {bs : List Ser} {rv : List (Value × Value)} {f : Nat → List (Int × Nat) → List (Int × Nat)} (h : OS w W base bs rv f) (hR : RoomB w base v r vals bs rv) (hf : ∀ i x, bs[i]? = some x → f i x.2 = flipS x.2) (hvl : vals.length = bs.length) : RoomB W base v r vals (flipB bs) rv := by
  rcases hR with ⟨h1, h2, rfl, h4⟩ | ⟨h1, g, bb, hg, hr, hl, hb, hB, hbs, hro, ha⟩
  · exact .inl ⟨h1, h2, rfl, h4⟩
  · have hgn : ¬ sBlocks rv g := fun ⟨i, q, hq, hk⟩ => (ha i q g hq hk).1 rfl
    have hbn : ∀ y ∈ bb, ¬ sBlocks rv y := fun y hy ⟨i, q, hq, hk⟩ => (ha i q y hq hk).2.1 hy
    refine .inr ⟨h1, g, bb, hg, by rw [flipB_length]; exact hr, by rw [flipB_length]; exact hl, hb, hB.kept (h.rest g hgn), fun y hy => ⟨(hbs y hy).1, (hbs y hy).2.kept (h.rest y (hbn y hy))⟩, fun i p q y hp hq hy => ?_, ha⟩
    obtain ⟨x, hx, rfl⟩ := flipB_get hy
    have hh := hro i p q x hp hq hx
    refine ⟨Room.kept hh.labels fun k hk => h.rest k fun ⟨j, u, hu, hk2⟩ => ((ha j u k hu hk2).2.2 i q hq).1 hk, ?_⟩
    rcases hh.samples with ⟨a1, a2, a3⟩ | ⟨a1, k, a2, a3, a4⟩
    · refine .inl ⟨a1, a2, ?_⟩
      have : x.2 = [] := by simpa [samP] using a3
      simp [this, flipS, samP]
    · refine .inr ⟨a1, k, a2, ?_, ?_⟩
      · rw [a3]; simp [samP, flipS]
      · have := h.done i q x k hq hx (by rw [a3]; rfl)
        rw [hf i x hx] at this; exact this
theorem OS.start {w : World} {base : Nat} {v r : Value} {vals : List (Value × Value)} {bs : List Ser} {rv : List (Value × Value)} (hR : RoomB w base v r vals bs rv) (hvl : vals.length = bs.length) : OS w w base bs rv fun _ l => l := by
  refine ⟨Below.refl _ _, fun _ _ => rfl, rfl, fun i q x k hq hx hk => ?_⟩
  rcases hR with ⟨_, _, rfl, _⟩ | ⟨h1, g, bb, hg, hr, hl, hb, hB, hbs, hro, ha⟩
  · simp at hx
  · obtain ⟨p, hp⟩ : ∃ p, vals[i]? = some p := ⟨_, List.getElem?_eq_getElem (by rw [hvl]; exact (List.getElem?_eq_some_iff.1 hx).1)⟩
    rcases (hro i p q x hp hq hx).samples with ⟨_, a2, _⟩ | ⟨_, k', _, a3, a4⟩
    · rw [a2] at hk; cases hk
    · rw [a3] at hk; cases hk; exact a4
end Go.Proofs.Ytcidgfdiacehmaa

/- choirlaw's over: the walk. -/
namespace Go.Proofs.Ytcidgfdiacehmaa
open Go.RowKit Go.Lib

def stF (m : Nat) : Nat → List (Int × Nat) → List (Int × Nat) := fun i l => if i < m then flipS l else l
def inF (m j : Nat) : Nat → List (Int × Nat) → List (Int × Nat) := fun i l => if i < m then flipS l else if i = m then mixS l j else l

set_option maxRecDepth 100000 in
set_option maxHeartbeats 1000000 in
theorem over_any (base base2 : Nat) (v r c : Value) (vals cv : List (Value × Value)) (bs : List Ser) (rv : List (Value × Value)) (w : World) (hR : RoomB w base v r vals bs rv) (hT : TurnAt w base2 v c vals cv bs) (hvl : vals.length = bs.length) (hsep : ∀ k, sBlocks rv k → k < base2) (hll : bs.length ≤ 3000000000000 ∧ ∀ s ∈ bs, s.2.length ≤ 8800000000000) :
    Calls Try.prog 18 #[r, c] w fun e w' => e = .returned (.tuple #[]) ∧ RoomB w' base v r vals (flipB bs) rv ∧ (∀ k, ¬ sBlocks rv k → w'.heap[k]? = w.heap[k]?) ∧ Below base w w' := by
  have HFin := hide (fun W (h : OS w W base bs rv (stF bs.length)) => h.fin hR (fun i x hx => by unfold stF; rw [if_pos (List.getElem?_eq_some_iff.1 hx).1]) hvl)
  have HS0 := hide (OS.start hR hvl)
  rcases hR with ⟨h1, rfl, rfl, rfl⟩ | ⟨h1, g, bb, hg, rfl, hl, hb, hB, hbs, hro, ha⟩
  · rcases hT with ⟨_, rfl, _, _⟩ | ⟨h2, _⟩
    · go_enter Try.func18, Try.ntmps18
      go_wp2
      go_loopw [4, 5] (fun i _ wr => i = .int .i64 0 ∧ wr = w) (fun _ _ _ => 0)
      case atStart => exact ⟨rfl, rfl⟩
      case round =>
        obtain ⟨rfl, rfl⟩ := hrel
        go_wp2
        go_end0
        exact ⟨rfl, HFin.out _ HS0.out, fun _ _ => rfl, Below.refl _ _⟩
    · rw [h1] at h2; cases h2
  · rcases hT with ⟨h2, _⟩ | ⟨_, gc, hgc, rfl, hcl, hBc, hfl⟩
    · rw [h1] at h2; cases h2
    · have hgn : ¬ sBlocks rv g := fun ⟨i, q, hq, hk⟩ => (ha i q g hq hk).1 rfl
      have hcn : ¬ sBlocks rv gc := fun hs => by have := hsep gc hs; omega
      have HB := hide hB
      have HBc := hide hBc
      have HRo := hide hro
      have HFl := hide hfl
      have HA := hide ha
      have HSep := hide hsep
      have HLL := hide hll.2
      have hbl := hll.1
      have HGn := hide hgn
      have HCn := hide hcn
      clear hB hBc hro hfl ha hbs hsep hgn hcn hll
      go_enter Try.func18, Try.ntmps18
      go_wp2
      go_loopw [4, 5] (fun i _ wr => ∃ m : Nat, m ≤ bs.length ∧ i = .int .i64 m ∧ Hid (OS w wr base bs rv (stF m))) (fun i _ _ => bs.length - (intOf i).toNat)
      case atStart => exact ⟨0, Nat.zero_le _, rfl, HS0.out.congr fun i x _ => by simp [stF]⟩
      case round =>
        generalize wr = W0 at *
        obtain ⟨m, hm, rfl, HS⟩ := hrel
        clear HS0
        by_cases hlt : m < bs.length
        · obtain ⟨x, hx⟩ : ∃ x, bs[m]? = some x := ⟨_, List.getElem?_eq_getElem hlt⟩
          obtain ⟨p, hp⟩ : ∃ p, vals[m]? = some p := ⟨_, List.getElem?_eq_getElem (by omega)⟩
          obtain ⟨q, hq⟩ : ∃ q, rv[m]? = some q := ⟨_, List.getElem?_eq_getElem (by omega)⟩
          obtain ⟨u, hu⟩ : ∃ u, cv[m]? = some u := ⟨_, List.getElem?_eq_getElem (by omega)⟩
          have hxl := HLL.out x (List.mem_of_getElem? hx)
          have hrm := (HRo.out m p q x hp hq hx)
          have hfm := (HFl.out m p u x hp hu hx)
          have hqs : ∃ qa qc, q.2 = .slice qa x.2.length qc ∧ (x.2 ≠ [] → ∃ k, qa = some ⟨k, 0, none⟩ ∧ base ≤ k) := by
            rcases hrm.samples with ⟨_, a2, a3⟩ | ⟨_, k, a2, a3, _⟩
            · have h0 : x.2 = [] := by simpa [samP] using a3
              exact ⟨none, 0, by rw [a2, h0]; rfl, fun h => absurd h0 h⟩
            · exact ⟨some ⟨k, 0, none⟩, _, by rw [a3, samP_length], fun _ => ⟨k, rfl, a2⟩⟩
          obtain ⟨qa, qc, hq2, hqk⟩ := hqs
          have hus : ∃ ua uc, u.2 = .slice ua x.2.length uc ∧ (x.2 ≠ [] → ∃ h, ua = some ⟨h, 0, none⟩ ∧ base2 ≤ h ∧ Blk w h 33 (serCells (samP (flipS x.2)))) := by
            rcases hfm.2 with ⟨_, a2, a3⟩ | ⟨_, k, a2, _, a3, a4⟩
            · exact ⟨none, 0, by rw [a2, a3]; rfl, fun h => absurd a3 h⟩
            · exact ⟨some ⟨k, 0, none⟩, _, a3, fun _ => ⟨k, rfl, a2, a4⟩⟩
          obtain ⟨ua, uc, hu2, huk⟩ := hus
          have hg1 := serCells_get (l := rv ++ bb.map beyV) (i := m) (p := q) (by rw [List.getElem?_append_left (by omega)]; exact hq)
          have hg2 := serCells_get hu
          have T1 : Hid (∀ W : World, (∀ k, ¬ sBlocks rv k → W.heap[k]? = w.heap[k]?) → W.cell? ⟨g, m * 2 + 1, none⟩ = some (.slice qa x.2.length qc) ∧ W.cell? ⟨gc, m * 2 + 1, none⟩ = some (.slice ua x.2.length uc)) := fun W hW => by
            refine ⟨?_, ?_⟩
            · rw [← hq2]; exact (HB.out.kept (hW g HGn.out)).cell hg1.2
            · rw [← hu2]; exact (HBc.out.kept (hW gc HCn.out)).cell hg2.2
          have HX := hide hx
          have HQ := hide hq
          have HQ2 := hide hq2
          have HQk := hide hqk
          have HUk := hide huk
          clear hx hp hq hu hrm hfm hq2 hu2 hqk huk hg1 hg2
          obtain ⟨t1, t2⟩ := T1.out W0 HS.out.rest
          go_wp2
          go_loopw [5] (fun i wr => ∃ j : Nat, j ≤ x.2.length ∧ i = .int .i64 j ∧ Hid (OS w wr base bs rv (inF m j))) (fun i _ => x.2.length - (intOf i).toNat)
          case atStart => exact ⟨0, Nat.zero_le _, rfl, HS.out.congr fun i y _ => by
              unfold inF stF
              by_cases e : i = m
              · subst e; rw [if_neg (by omega), if_pos rfl, if_neg (by omega), mixS_zero]
              · by_cases e2 : i < m
                · rw [if_pos e2, if_pos e2]
                · rw [if_neg e2, if_neg e, if_neg e2]⟩
          case round =>
            clear HS t1 t2
            obtain ⟨j, hj, rfl, HS⟩ := hrel
            obtain ⟨t1, t2⟩ := T1.out wr HS.out.rest
            by_cases hjl : j < x.2.length
            · obtain ⟨⟨y1, y2⟩, hy⟩ : ∃ y, x.2[j]? = some y := ⟨_, List.getElem?_eq_getElem hjl⟩
              have hne : x.2 ≠ [] := fun e => by rw [e] at hjl; simp at hjl
              obtain ⟨k, rfl, hkb⟩ := HQk.out hne
              obtain ⟨h, rfl, hhb, hBh⟩ := HUk.out hne
              have hown : q.2.ownBlock = some k := by rw [HQ2.out]; rfl
              have hks : sBlocks rv k := ⟨m, q, HQ.out, hown⟩
              have hk2 := HSep.out k hks
              have hkg : ¬ k = g := (HA.out m q k HQ.out hown).1
              have hkc : ¬ k = gc := by omega
              have hkh : ¬ k = h := by omega
              have hhn : ¬ sBlocks rv h := fun hs => by have := HSep.out h hs; omega
              have e3 : (flipS x.2)[j]? = some (y1, y2 ^^^ 5) := by simp [flipS, hy]
              have t3 := (hBh.kept (HS.out.rest h hhn)).cell (serCells_get (samP_get e3)).2
              have hBk := HS.out.done m q x k HQ.out HX.out hown
              have e4 : inF m j m x.2 = mixS x.2 j := by unfold inF; rw [if_neg (by omega), if_pos rfl]
              rw [e4] at hBk
              have hgk := serCells_get (roomP_front (samP (mixS x.2 j)) samX samZ 8 (samP_get (mixS_get hy)))
              have t4 := hBk.cell hgk.2
              have f4 := hBk.frozen (j * 2 + 1)
              have HN := hide (HS.out.step (f' := inF m (j + 1)) HA.out HQ.out HX.out hown hkb hy e4 (by unfold inF; rw [if_neg (by omega), if_pos rfl]) (fun i hi => by unfold inF; funext l; simp [hi]))
              simp only at t3 t4 HN
              have q1 : (m : Int) < (bs.length : Int) := by omega
              have q2 : (0 : Int) ≤ (m : Int) := by omega
              have q3 : (j : Int) < (x.2.length : Int) := by omega
              have q4 : (0 : Int) ≤ (j : Int) := by omega
              clear hy hne hks hBk hgk e3 e4 hBh HS hown
              go_wp2
              as_aux_lemma =>
                go_region_held3 (fun w' => w'.cell? ⟨g, m * 2 + 1, none⟩ = some (.slice (some ⟨k, 0, none⟩) x.2.length qc) ∧ w'.cell? ⟨gc, m * 2 + 1, none⟩ = some (.slice (some ⟨h, 0, none⟩) x.2.length uc) ∧ w'.cell? ⟨h, j * 2 + 1, none⟩ = some (.int .u64 ((y2 ^^^ 5 : Nat) : Int))) (go_keep) (fail)
                all_goals
                  go_wp2
                  go_roundw
                  case rel => exact ⟨j + 1, by omega, by go_num, HN.out.drew⟩
                  case measure => simp [intOf]; omega
            · have hje : j = x.2.length := by omega
              have HN : Hid (OS w wr base bs rv (stF (m + 1))) := HS.out.congr fun i y hy => by
                unfold inF stF
                by_cases e : i = m
                · subst e
                  have h := HX.out
                  rw [hy] at h; cases h
                  rw [if_pos (by omega), if_neg (by omega), if_pos rfl, hje, mixS_all]
                · by_cases e2 : i < m
                  · rw [if_pos (by omega), if_pos e2]
                  · rw [if_neg (by omega), if_neg e2, if_neg e]
              clear HS
              go_wp2
              go_roundw
              case rel => exact ⟨m + 1, by omega, by go_num, HN.out⟩
              case measure => simp [intOf]; omega
        · have hme : m = bs.length := by omega
          have HE : Hid (OS w W0 base bs rv (stF bs.length)) := by rw [← hme]; exact HS.out
          clear HS
          go_wp2
          go_end0
          exact ⟨rfl, HFin.out _ HE.out, HE.out.rest, HE.out.below⟩
end Go.Proofs.Ytcidgfdiacehmaa

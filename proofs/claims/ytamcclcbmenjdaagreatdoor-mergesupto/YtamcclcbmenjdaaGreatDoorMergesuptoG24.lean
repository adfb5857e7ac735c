/- 'choirlaw.Merges', for any list of texts of bulk at most 1048576: Merge answers the document's frame or error; what is handed in stays. The second form's statement and its card: its only condition is the row's own bound on the argument's bulk. -/
import Derived.Test.YtamcclcbmenjdaaGreatDoorMergesuptoG21
import Derived.Test.YtamcclcbmenjdaaGreatDoorMergesuptoG23
/- A batch with one sample more, at its place: it is a join. No program here. -/
namespace Go.Proofs.YtamcclcbmenjdaaGreatDoor

/-- A sample put at its place. -/
def addS (s : Int × Nat) : List (Int × Nat) → List (Int × Nat)
  | [] => [s]
  | x :: r => if s.1 < x.1 then s :: x :: r else if x.1 = s.1 then (if x.2 < s.2 then s else x) :: r else x :: addS s r
/-- A sample of labels put at its place. -/
def addB (l : List Lab) (s : Int × Nat) : List Ser → List Ser
  | [] => [(l, [s])]
  | b :: r => if cmpLabs b.1 l < 0 then b :: addB l s r else if 0 < cmpLabs b.1 l then (l, [s]) :: b :: r else (l, addS s b.2) :: r

theorem addS_mem {s : Int × Nat} : ∀ {xs : List (Int × Nat)}, xs.Pairwise SLt → ∀ t v, (t, v) ∈ addS s xs ↔ ((t, v) ∈ xs ∨ (t, v) = s) ∧ (∀ u, (t, u) ∈ xs → u ≤ v) ∧ (t = s.1 → s.2 ≤ v)
  | [], _, t, v => by
    simp only [addS, List.mem_singleton, List.not_mem_nil, false_or, false_implies, implies_true, true_and]
    constructor
    · intro e; subst e; exact ⟨rfl, fun _ => Nat.le_refl _⟩
    · exact fun h => h.1
  | x :: r, h, t, v => by
    obtain ⟨hx, hr⟩ := List.pairwise_cons.1 h
    unfold addS
    have hone : ∀ u, (t, u) ∈ x :: r → (t, v) ∈ x :: r → u ≤ v := fun u h1 h2 => by rw [pair_unique h h1 h2]; exact Nat.le_refl _
    by_cases h1 : s.1 < x.1
    · rw [if_pos h1]
      have hno : ∀ u, (s.1, u) ∉ x :: r := fun u hu => by
        rcases List.mem_cons.1 hu with e | e
        · have : s.1 = x.1 := by rw [← e]
          omega
        · have := hx _ e; unfold SLt at this; simp only at this; omega
      constructor
      · intro hm
        rcases List.mem_cons.1 hm with e | e
        · refine ⟨.inr e, fun u hu => ?_, fun _ => by rw [← e]; exact Nat.le_refl _⟩
          exact absurd (by rw [← e]; exact hu) (hno u)
        · refine ⟨.inl e, fun u hu => hone u hu e, fun e2 => ?_⟩
          exact absurd (e2 ▸ e) (hno v)
      · rintro ⟨e | e, _, _⟩
        · exact List.mem_cons_of_mem _ e
        · rw [e]; exact List.mem_cons_self ..
    · rw [if_neg h1]
      by_cases h2 : x.1 = s.1
      · rw [if_pos h2]
        have hno : ∀ u, (s.1, u) ∉ r := fun u hu => by
          have := hx _ hu; unfold SLt at this; simp only at this; omega
        by_cases h3 : x.2 < s.2
        · rw [if_pos h3]
          constructor
          · intro hm
            rcases List.mem_cons.1 hm with e | e
            · refine ⟨.inr e, fun u hu => ?_, fun _ => by rw [← e]; exact Nat.le_refl _⟩
              rcases List.mem_cons.1 hu with e2 | e2
              · have h4 : u = x.2 := by rw [← e2]
                have h5 : v = s.2 := by rw [← e]
                omega
              · exact absurd (by rw [← e]; exact e2) (hno u)
            · exact ⟨.inl (List.mem_cons_of_mem _ e), fun u hu => hone u hu (List.mem_cons_of_mem _ e), fun e2 => absurd (e2 ▸ e) (hno v)⟩
          · rintro ⟨e | e, _, h6⟩
            · rcases List.mem_cons.1 e with e2 | e2
              · have h4 : v = x.2 := by rw [← e2]
                have h5 : t = x.1 := by rw [← e2]
                have := h6 (by omega); omega
              · exact List.mem_cons_of_mem _ e2
            · rw [e]; exact List.mem_cons_self ..
        · rw [if_neg h3]
          constructor
          · intro hm
            refine ⟨.inl hm, fun u hu => hone u hu hm, fun e2 => ?_⟩
            rcases List.mem_cons.1 hm with e | e
            · have h4 : v = x.2 := by rw [← e]
              omega
            · exact absurd (e2 ▸ e) (hno v)
          · rintro ⟨e | e, h5, h6⟩
            · exact e
            · have h7 : t = s.1 := by rw [← e]
              have h8 : v = s.2 := by rw [← e]
              have h9 : (t, x.2) ∈ x :: r := by
                have : (t, x.2) = x := by rw [h7, ← h2]
                rw [this]; exact List.mem_cons_self ..
              have := h5 _ h9
              have h10 : (t, v) = x := Prod.ext (by show t = x.1; omega) (by show v = x.2; omega)
              rw [h10]; exact List.mem_cons_self ..
      · rw [if_neg h2]
        have ih := addS_mem (s := s) hr t v
        constructor
        · intro hm
          rcases List.mem_cons.1 hm with e | e
          · refine ⟨.inl (by rw [e]; exact List.mem_cons_self ..), fun u hu => hone u hu (by rw [e]; exact List.mem_cons_self ..), fun e2 => ?_⟩
            have : t = x.1 := by rw [← e]
            omega
          · obtain ⟨i1, i2, i3⟩ := ih.1 e
            refine ⟨i1.imp (List.mem_cons_of_mem _) id, fun u hu => ?_, i3⟩
            rcases List.mem_cons.1 hu with e2 | e2
            · rcases i1 with i1 | i1
              · exact hone u hu (List.mem_cons_of_mem _ i1)
              · have h4 : t = x.1 := by rw [← e2]
                have h5 : t = s.1 := by rw [← i1]
                omega
            · exact i2 u e2
        · rintro ⟨e | e, h5, h6⟩
          · rcases List.mem_cons.1 e with e2 | e2
            · rw [e2]; exact List.mem_cons_self ..
            · exact List.mem_cons_of_mem _ (ih.2 ⟨.inl e2, fun u hu => h5 u (List.mem_cons_of_mem _ hu), h6⟩)
          · exact List.mem_cons_of_mem _ (ih.2 ⟨.inr e, fun u hu => h5 u (List.mem_cons_of_mem _ hu), h6⟩)
theorem addS_rises {s : Int × Nat} : ∀ {xs : List (Int × Nat)}, xs.Pairwise SLt → (addS s xs).Pairwise SLt
  | [], _ => by simp [addS]
  | x :: r, h => by
    obtain ⟨hx, hr⟩ := List.pairwise_cons.1 h
    unfold addS
    by_cases h1 : s.1 < x.1
    · rw [if_pos h1]
      refine List.pairwise_cons.2 ⟨fun y hy => ?_, h⟩
      rcases List.mem_cons.1 hy with rfl | hy
      · exact h1
      · exact SLt.tr s x y h1 (hx y hy)
    · rw [if_neg h1]
      by_cases h2 : x.1 = s.1
      · rw [if_pos h2]
        refine List.pairwise_cons.2 ⟨fun y hy => ?_, hr⟩
        have := hx y hy
        unfold SLt at *
        split <;> omega
      · rw [if_neg h2]
        refine List.pairwise_cons.2 ⟨fun y hy => ?_, addS_rises hr⟩
        rcases ((addS_mem hr y.1 y.2).1 hy).1 with e | e
        · exact hx _ e
        · have e1 : y.1 = s.1 := by rw [← e]
          unfold SLt; omega
theorem addS_ne {s : Int × Nat} (xs : List (Int × Nat)) : addS s xs ≠ [] := by
  cases xs with
  | nil => simp [addS]
  | cons x r => unfold addS; split <;> (try split) <;> simp
theorem addS_len (s : Int × Nat) (xs : List (Int × Nat)) : (addS s xs).length ≤ xs.length + 1 := by
  induction xs with
  | nil => simp [addS]
  | cons x r ih => unfold addS; split <;> (try split) <;> simp <;> omega
theorem addB_len (l : List Lab) (s : Int × Nat) (bs : List Ser) : (addB l s bs).length ≤ bs.length + 1 := by
  induction bs with
  | nil => simp [addB]
  | cons x r ih => unfold addB; split <;> (try split) <;> simp <;> omega
theorem addB_mem {l : List Lab} {s : Int × Nat} : ∀ {bs : List Ser} {x : Ser}, x ∈ addB l s bs → x ∈ bs ∨ x = (l, [s]) ∨ ∃ y ∈ bs, y.1 = l ∧ x = (l, addS s y.2)
  | [], x, h => .inr (.inl (by simpa [addB] using h))
  | b :: r, x, h => by
    unfold addB at h
    by_cases h1 : cmpLabs b.1 l < 0
    · rw [if_pos h1] at h
      rcases List.mem_cons.1 h with e | e
      · exact .inl (by rw [e]; exact List.mem_cons_self ..)
      · rcases addB_mem e with e | e | ⟨y, hy, e⟩
        · exact .inl (List.mem_cons_of_mem _ e)
        · exact .inr (.inl e)
        · exact .inr (.inr ⟨y, List.mem_cons_of_mem _ hy, e⟩)
    · rw [if_neg h1] at h
      by_cases h2 : 0 < cmpLabs b.1 l
      · rw [if_pos h2] at h
        rcases List.mem_cons.1 h with e | e
        · exact .inr (.inl e)
        · exact .inl e
      · rw [if_neg h2] at h
        rcases List.mem_cons.1 h with e | e
        · exact .inr (.inr ⟨b, List.mem_cons_self .., (cmpLabs_zero _ _).1 (by omega), e⟩)
        · exact .inl (List.mem_cons_of_mem _ e)
theorem cmpLabs_gt {x y : List Lab} (h : 0 < cmpLabs x y) : cmpLabs y x = -1 := by
  have := cmpLabs_neg x y
  rcases cmpLabs_three x y with e | e | e <;> omega
theorem addB_rises {l : List Lab} {s : Int × Nat} : ∀ {bs : List Ser}, bs.Pairwise LLt → (addB l s bs).Pairwise LLt
  | [], _ => by simp [addB]
  | b :: r, h => by
    obtain ⟨hx, hr⟩ := List.pairwise_cons.1 h
    unfold addB
    by_cases h1 : cmpLabs b.1 l < 0
    · rw [if_pos h1]
      refine List.pairwise_cons.2 ⟨fun y hy => ?_, addB_rises hr⟩
      rcases addB_mem hy with e | e | ⟨z, hz, e1, e2⟩
      · exact hx y e
      · unfold LLt; rw [e]; exact cmpLabs_lt h1
      · unfold LLt; rw [e2]; exact cmpLabs_lt h1
    · rw [if_neg h1]
      by_cases h2 : 0 < cmpLabs b.1 l
      · rw [if_pos h2]
        refine List.pairwise_cons.2 ⟨fun y hy => ?_, h⟩
        rcases List.mem_cons.1 hy with rfl | hy
        · exact cmpLabs_gt h2
        · exact cmpLabs_trans (cmpLabs_gt h2) (hx y hy)
      · rw [if_neg h2]
        have e : b.1 = l := (cmpLabs_zero _ _).1 (by omega)
        refine List.pairwise_cons.2 ⟨fun y hy => ?_, hr⟩
        have := hx y hy
        unfold LLt at *; rw [← e]; exact this
theorem addB_holds {l : List Lab} {s : Int × Nat} : ∀ {bs : List Ser}, bs.Pairwise LLt → (∀ x ∈ bs, x.2.Pairwise SLt) → ∀ m t v, Holds (addB l s bs) m t v ↔ (Holds bs m t v ∨ (m = l ∧ (t, v) = s)) ∧ (∀ u, Holds bs m t u → u ≤ v) ∧ (m = l → t = s.1 → s.2 ≤ v)
  | [], _, _, m, t, v => by
    constructor
    · rintro ⟨x, hx, e, hm⟩
      have hx : x = (l, [s]) := by simpa [addB] using hx
      subst hx
      have hm : (t, v) = s := by simpa using hm
      refine ⟨.inr ⟨e.symm, hm⟩, (fun u ⟨_, h, _⟩ => (by cases h)), fun _ _ => by rw [← hm]; exact Nat.le_refl _⟩
    · rintro ⟨⟨_, h, _⟩ | ⟨e, h⟩, _, _⟩
      · cases h
      · exact ⟨(l, [s]), by simp [addB], e.symm, by simp [h]⟩
  | b :: r, h, hs, m, t, v => by
    have hone : ∀ u, Holds (b :: r) m t u → Holds (b :: r) m t v → u ≤ v := fun u ⟨x, hx, e, h1⟩ ⟨y, hy, e2, h2⟩ => by
      have := ser_unique h hx hy (e.trans e2.symm)
      subst this
      rw [pair_unique (hs x hx) h1 h2]; exact Nat.le_refl _
    obtain ⟨hx, hr⟩ := List.pairwise_cons.1 h
    have hcons : ∀ (c : Ser) (q : List Ser) u, Holds (c :: q) m t u ↔ (c.1 = m ∧ (t, u) ∈ c.2) ∨ Holds q m t u := fun c q u => by
      constructor
      · rintro ⟨x, hx, e, h1⟩
        rcases List.mem_cons.1 hx with rfl | hx
        · exact .inl ⟨e, h1⟩
        · exact .inr ⟨x, hx, e, h1⟩
      · rintro (⟨e, h1⟩ | ⟨x, hx, e, h1⟩)
        · exact ⟨c, List.mem_cons_self .., e, h1⟩
        · exact ⟨x, List.mem_cons_of_mem _ hx, e, h1⟩
    have hrno : ∀ (c : List Lab), (∀ y ∈ r, cmpLabs c y.1 = -1) → ∀ u, ¬ Holds r c t u := fun c hc u ⟨y, hy, e, _⟩ => by
      have := hc y hy
      rw [e, cmpLabs_self] at this; cases this
    unfold addB
    by_cases h1 : cmpLabs b.1 l < 0
    · rw [if_pos h1, hcons, addB_holds hr (fun x hx => hs x (List.mem_cons_of_mem _ hx))]
      have hbl : b.1 ≠ l := fun e => by rw [e, cmpLabs_self] at h1; omega
      constructor
      · rintro (⟨e, hm⟩ | ⟨i1, i2, i3⟩)
        · have hH : Holds (b :: r) m t v := (hcons b r v).2 (.inl ⟨e, hm⟩)
          exact ⟨.inl hH, fun u hu => hone u hu hH, fun e2 => absurd (e.trans e2) hbl⟩
        · refine ⟨i1.imp (fun h => (hcons b r v).2 (.inr h)) id, fun u hu => ?_, i3⟩
          rcases (hcons b r u).1 hu with ⟨e, hm⟩ | hu
          · rcases i1 with i1 | ⟨i1, _⟩
            · exact absurd (e ▸ i1) (hrno b.1 (fun y hy => hx y hy) v)
            · exact absurd (e.trans i1) hbl
          · exact i2 u hu
      · rintro ⟨i1, i2, i3⟩
        rcases i1 with i1 | i1
        · rcases (hcons b r v).1 i1 with e | e
          · exact .inl e
          · exact .inr ⟨.inl e, fun u hu => i2 u ((hcons b r u).2 (.inr hu)), i3⟩
        · exact .inr ⟨.inr i1, fun u hu => i2 u ((hcons b r u).2 (.inr hu)), i3⟩
    · rw [if_neg h1]
      by_cases h2 : 0 < cmpLabs b.1 l
      · rw [if_pos h2, hcons]
        have hlno : ∀ u, ¬ Holds (b :: r) l t u := fun u ⟨y, hy, e, _⟩ => by
          rcases List.mem_cons.1 hy with rfl | hy
          · rw [e, cmpLabs_self] at h2; omega
          · have := cmpLabs_trans (cmpLabs_gt h2) (hx y hy)
            rw [e, cmpLabs_self] at this; cases this
        constructor
        · rintro (⟨e, hm⟩ | hH)
          · have hm : (t, v) = s := by simpa using hm
            have e : l = m := e
            exact ⟨.inr ⟨e.symm, hm⟩, fun u hu => absurd (e ▸ hu) (hlno u), fun _ _ => by rw [← hm]; exact Nat.le_refl _⟩
          · exact ⟨.inl hH, fun u hu => hone u hu hH, fun e => absurd (e ▸ hH) (hlno v)⟩
        · rintro ⟨i1 | ⟨e, i1⟩, _, _⟩
          · exact .inr i1
          · exact .inl ⟨e.symm, by simp [i1]⟩
      · rw [if_neg h2, hcons]
        have hbl : b.1 = l := (cmpLabs_zero _ _).1 (by omega)
        have hbs := hs b (List.mem_cons_self ..)
        by_cases hml : m = l
        · subst hml
          have hno := hrno m (fun y hy => by rw [← hbl]; exact hx y hy)
          have hH : ∀ u, Holds (b :: r) m t u ↔ (t, u) ∈ b.2 := fun u => (hcons b r u).trans ⟨fun h => h.elim (fun h => h.2) fun h => absurd h (hno u), fun h => .inl ⟨hbl, h⟩⟩
          simp only [hH, true_and, hno, or_false, forall_const]
          exact addS_mem hbs t v
        · have hmb : ¬ l = m := fun e => hml e.symm
          have hH : ∀ u, Holds (b :: r) m t u ↔ Holds r m t u := fun u => (hcons b r u).trans ⟨fun h => h.elim (fun h => absurd (hbl ▸ h.1) hmb) id, .inr⟩
          constructor
          · rintro (⟨e, _⟩ | hm)
            · exact absurd e hmb
            · exact ⟨.inl ((hH v).2 hm), fun u hu => hone u hu ((hH v).2 hm), fun e => absurd e hml⟩
          · rintro ⟨i1 | ⟨e, _⟩, _, _⟩
            · exact .inr ((hH v).1 i1)
            · exact absurd e hml
theorem batchOk_one {l : List Lab} (hl : LabelsOk l) (s : Int × Nat) : BatchOk [(l, [s])] := by
  rw [batchOk_iff]
  refine ⟨fun x hx => ?_, by simp⟩
  rw [List.mem_singleton.1 hx]
  exact ⟨hl, (samplesOk_iff _).2 ⟨by simp, by simp⟩⟩
theorem holds_one {l m : List Lab} {s : Int × Nat} {t : Int} {v : Nat} : Holds [(l, [s])] m t v ↔ m = l ∧ (t, v) = s := by
  constructor
  · rintro ⟨x, hx, e, h⟩
    rw [List.mem_singleton.1 hx] at e h
    exact ⟨e.symm, by simpa using h⟩
  · rintro ⟨e, h⟩
    exact ⟨_, List.mem_singleton.2 rfl, e.symm, by simp [h]⟩
theorem addB_join {l : List Lab} {s : Int × Nat} {bs : List Ser} (h : BatchOk bs) (hl : LabelsOk l) : IsJoin [bs, [(l, [s])]] (addB l s bs) := by
  have hb := (batchOk_iff bs).1 h
  have hr : ∀ x ∈ bs, x.2.Pairwise SLt := fun x hx => ((samplesOk_iff _).1 (hb.1 x hx).2).2
  refine ⟨(batchOk_iff _).2 ⟨fun x hx => ?_, addB_rises hb.2⟩, fun m t v => ?_⟩
  · rcases addB_mem hx with e | e | ⟨y, hy, _, e⟩
    · exact hb.1 x e
    · rw [e]; exact ⟨hl, (samplesOk_iff _).2 ⟨by simp, by simp⟩⟩
    · rw [e]; exact ⟨hl, (samplesOk_iff _).2 ⟨addS_ne _, addS_rises (hr y hy)⟩⟩
  · rw [addB_holds hb.2 hr]
    simp only [List.mem_cons, List.not_mem_nil, or_false, exists_eq_or_imp, exists_eq_left, forall_eq_or_imp, forall_eq, holds_one]
    refine and_congr Iff.rfl (and_congr Iff.rfl ⟨fun h u ⟨e, g⟩ => ?_, fun h e1 e2 => ?_⟩)
    · have := h e (by rw [← g]); rw [← g] at this; exact this
    · exact h s.2 ⟨e1, by rw [e2]⟩
/-- The samples of a batch, each a batch of its own. -/
def singles (bs : List Ser) : List (List Ser) := bs.flatMap fun s => s.2.map fun x => [(s.1, [x])]
theorem singles_holds {bs : List Ser} {m : List Lab} {t : Int} {v : Nat} : (∃ c ∈ singles bs, Holds c m t v) ↔ Holds bs m t v := by
  constructor
  · rintro ⟨c, hc, h⟩
    obtain ⟨s, hs, hc⟩ := List.mem_flatMap.1 hc
    obtain ⟨x, hx, rfl⟩ := List.mem_map.1 hc
    obtain ⟨e, g⟩ := holds_one.1 h
    exact ⟨s, hs, e.symm, by rw [g]; exact hx⟩
  · rintro ⟨s, hs, e, hx⟩
    exact ⟨[(s.1, [(t, v)])], List.mem_flatMap.2 ⟨s, hs, List.mem_map.2 ⟨_, hx, rfl⟩⟩, holds_one.2 ⟨e.symm, rfl⟩⟩
theorem IsJoin.singles {a b j : List Ser} (h : IsJoin (a :: Go.Proofs.YtamcclcbmenjdaaGreatDoor.singles b) j) : IsJoin [a, b] j := by
  refine ⟨h.ok, fun l t v => (h.holds l t v).trans ?_⟩
  simp only [List.mem_cons, List.not_mem_nil, or_false, exists_eq_or_imp, exists_eq_left, forall_eq_or_imp, forall_eq, singles_holds]
  refine and_congr Iff.rfl (and_congr Iff.rfl ⟨fun h u hu => ?_, fun h c hc u hu => h u (singles_holds.1 ⟨c, hc, hu⟩)⟩)
  obtain ⟨c, hc, hh⟩ := singles_holds.2 hu
  exact h c hc u hh
end Go.Proofs.YtamcclcbmenjdaaGreatDoor

/- join's rests (of samples): takeAlike. -/
namespace Go.Proofs.YtamcclcbmenjdaaGreatDoor
open Go.RowKit Go.Lib

theorem Tryz.infoElS : (Tryz.prog.info? 34).map (fun i => (i.zero, i.size, i.bytes)) = some (some (.agg #[(.int .i64 0), (.int .u64 0)]), 2, 16) := by kernel_rfl
/-- What the heap's top is in memory. -/
theorem HeapS.top {w0 : World} {K : Nat → Obj → Prop} {W : World} {hb : Nat} {ms : List (List (Int × Nat))} (h : HeapS w0 K W hb ms) (h0 : ms ≠ []) :
    ∃ g n c y t b o k a0 a1, W.cell? ⟨hb, 0, none⟩ = some (.slice (some ⟨g, 0, none⟩) n c) ∧ n = ms.length ∧ W.cell? ⟨g, 0, none⟩ = some (.slice (some ⟨b, o, none⟩) (t.length + 1) k) ∧ b < w0.heap.size ∧ w0.cell? ⟨b, o, none⟩ = some a0 ∧ w0.cell? ⟨b, o + 1, none⟩ = some a1 ∧ ElS w0 y a0 a1 ∧ (y :: t) ∈ ms ∧ (∀ k ∈ ms, ∀ z, k.head? = some z → cmpT y z ≤ 0) ∧ g < W.heap.size := by
  obtain ⟨lv, vs, ls', h1, h2, h3⟩ := h
  have hlen := h2.length_eq
  have hvl := h1.lists.len
  have hpos : 0 < ls'.length := by rw [hlen]; exact List.length_pos_iff.2 h0
  obtain ⟨y, t, v, hlx, hvx, _, hdx⟩ := h1.cons (i := 0) hpos
  obtain ⟨b, o, k, a0, a1, rfl, hb0, p0, p1, hE⟩ := (h1.lists.each 0 _ _ hvx hlx).1.head
  obtain ⟨g, c, rfl, g1, _, _, _, hgl⟩ := h1.rst.get hvx
  refine ⟨g, _, c, y, t, b, o, k, a0, a1, h1.rst.c0, by omega, g1, hb0, p0, p1, hE, h2.mem_iff.1 (List.mem_of_getElem? hlx), fun k hk z hz => ?_, hgl⟩
  obtain ⟨i, hi, e⟩ := List.mem_iff_getElem.1 (h2.mem_iff.2 hk)
  have := Hp.heap_min leS_tot leS_tr h3 i (by omega)
  cases k with
  | nil => cases hz
  | cons p q =>
    cases hz
    rw [hdx, hdS_of (ls := ls') (k := i) (by rw [List.getElem?_eq_getElem hi, e])] at this
    exact this
theorem HeapS.c1 {w0 : World} {K : Nat → Obj → Prop} {W : World} {hb : Nat} {ms : List (List (Int × Nat))} (h : HeapS w0 K W hb ms) : W.cell? ⟨hb, 1, none⟩ = some (.func (.func 161) #[] #[]) := by
  obtain ⟨lv, vs, ls', h1, _⟩ := h; exact h1.rst.c1
theorem heapLenS_any {w0 : World} {K : Nat → Obj → Prop} {hb : Nat} {ms : List (List (Int × Nat))} (W : World) (h : HeapS w0 K W hb ms) :
    Calls Tryz.prog 162 #[.pointer (some ⟨hb, 0, none⟩)] W fun e w' => e = .returned (.int .i64 ms.length) ∧ W = w' := by
  obtain ⟨lv, vs, ls', h1, h2, _⟩ := h
  have := lenS_any W h1.rst
  rw [h1.lists.len, h2.length_eq] at this
  exact this.mono fun e w' ⟨a, b⟩ => ⟨a, b.symm⟩

/-- A row of its own with the cells of elements. -/
structure RowS (w0 W : World) (av : Value) (aa : List (Int × Nat)) : Prop where
  row : ∃ vals : List (Value × Value), vals.length = aa.length ∧ W.ownsRow w0.heap.size 34 2 av aa.length (serCells vals) ∧ ∀ (i : Nat) (p : Value × Value) (x : (Int × Nat)), vals[i]? = some p → aa[i]? = some x → ElS w0 x p.1 p.2
theorem RowS.kept {w0 W W' : World} {av : Value} {aa : List (Int × Nat)} (h : RowS w0 W av aa) (hk : ∀ k, av.ownBlock = some k → W'.heap[k]? = W.heap[k]?) : RowS w0 W' av aa := by
  obtain ⟨vals, h1, h2, h3⟩ := h.row
  exact ⟨vals, h1, own_kept h2 hk, h3⟩
theorem RowS.first {w0 W : World} {g n cap : Nat} {x : (Int × Nat)} {aa : List (Int × Nat)} (h : RowS w0 W (.slice (some ⟨g, 0, none⟩) n cap) (x :: aa)) : ∃ z0 z1, W.cell? ⟨g, 0, none⟩ = some z0 ∧ W.cell? ⟨g, 1, none⟩ = some z1 ∧ ElS w0 x z0 z1 ∧ g < W.heap.size := by
  obtain ⟨vals, h1, h2, h3⟩ := h.row
  obtain ⟨a, c, e⟩ := own_shape h2
  cases e
  cases vals with
  | nil => simp at h1
  | cons p r =>
    have hp := pair_get (fun x : Value × Value => x.1) (fun x => x.2) (p :: r) 0 p rfl
    exact ⟨p.1, p.2, own_cell h2 hp.1, own_cell h2 hp.2, h3 0 p x rfl rfl, (World.ownsRow.lt h2 g rfl).2⟩
/-- The heap, and a row beside it. -/
structure AlkS (w0 : World) (K : Nat → Obj → Prop) (W : World) (hb g n cap : Nat) (aa : List (Int × Nat)) (ms : List (List (Int × Nat))) : Prop where
  row : RowS w0 W (.slice (some ⟨g, 0, none⟩) n cap) aa
  heap : HeapS w0 (fun k o => K k o ∨ k = g ∧ W.heap[k]? = some o) W hb ms
  out : ∀ o, ¬ K g o

set_option maxRecDepth 100000 in
set_option maxHeartbeats 1000000 in
theorem takeAlikeS_any {w0 : World} {K : Nat → Obj → Prop} {hb : Nat} {ls : List (List (Int × Nat))} (W : World) (h : HeapS w0 K W hb ls) (hsm : ∀ k ∈ ls, ∀ x ∈ k, SmS x) (hn : ls.length ≤ 1000000000) (hfl : ls.flatten.length ≤ 1000000000000) (hr : Rests cmpT ls) (h0 : ls ≠ []) :
    Calls Tryz.prog 164 #[.pointer (some ⟨hb, 0, none⟩)] W fun e w' => ∃ av x aa ms, e = .returned av ∧ RowS w0 w' av (x :: aa) ∧ Alike cmpT ls x (x :: aa) ms ∧ (∀ y ∈ ms.flatten, cmpT x y = -1) ∧ HeapS w0 K w' hb ms ∧ W.heap.size ≤ w'.heap.size ∧ ms.length ≤ 1000000000 := by
  obtain ⟨i0, hi, hz0, hz1, hz2⟩ := info_parts Tryz.infoElS
  have C1 := hide (takeLeastS_any W h hsm hn h0)
  have HSm := hide hsm
  clear h hsm
  go_enter Tryz.func164, Tryz.ntmps164
  go_wp2_with fail
  refine C1.out.mono ?_
  rintro e w1 ⟨a0, a1, x, t, ms, rfl, hE, hP, hM, hH, hsz⟩
  obtain ⟨rfl, rfl⟩ := id hE
  clear C1
  have HR0 : Hid (RowS w0 (w1.alloc (.cells #[(.int .i64 x.1), (.int .u64 x.2)] 34)) (.slice (some ⟨w1.heap.size, 0, none⟩) 1 1) [x]) := ⟨[((.int .i64 x.1), (.int .u64 x.2))], rfl, ⟨rfl, .inr ⟨w1.heap.size, 1, #[(.int .i64 x.1), (.int .u64 x.2)], rfl, hH.below.size, alloc_heap_new _ _, Nat.le_refl _, by decide, rfl, rfl⟩⟩, fun i p y hp hy => by
    cases i with
    | zero => cases hp; cases hy; exact hE
    | succ i => simp at hp⟩
  have HA0 : Hid (AlkS w0 K (w1.alloc (.cells #[(.int .i64 x.1), (.int .u64 x.2)] 34)) hb w1.heap.size 1 1 [x] (restOf t ms)) := ⟨HR0.out, (hH.more _).move (Nat.le_refl _) (fun _ _ _ => rfl) (fun k o hk => by
      rcases hk with hk | ⟨rfl, hk⟩
      · exact ⟨(hH.more _).kp (.inl hk), .inl ⟨o, .inl hk⟩⟩
      · exact ⟨hk, .inl ⟨_, .inr ⟨rfl, rfl⟩⟩⟩) (hH.more _).below, fun o ho => by have := lt_of_heapS (hH.kp ho); omega⟩
  have HL0 := hide (Alike.first cmpT_ok hr hP (List.Perm.refl _) hM)
  have HRs := hide hr
  have HFl : Hid (∀ aa ms, Alike cmpT ls x (x :: aa) ms → aa.length + 1 + ms.flatten.length = ls.flatten.length) := fun aa ms h => by have := h.perm.length_eq; simp only [List.length_append, List.length_cons] at this; omega
  have HW0 : Hid (W.heap.size ≤ (w1.alloc (.cells #[(.int .i64 x.1), (.int .u64 x.2)] 34)).heap.size) := by show W.heap.size ≤ (w1.alloc _).heap.size; simp; omega
  have HN0 : Hid ((restOf t ms).length ≤ 1000000000) := by show (restOf t ms).length ≤ 1000000000; have := restOf_len t ms; have := hP.length_eq; simp at this; omega
  clear HR0 hH hP hM hE hr
  go_wp2_with fail
  go_loopw [3] (fun av wr => ∃ (g cap : Nat) (aa : List (Int × Nat)) (ms : List (List (Int × Nat))), av = .slice (some ⟨g, 0, none⟩) (aa.length + 1) cap ∧ Hid (AlkS w0 K wr hb g (aa.length + 1) cap (x :: aa) ms) ∧ Hid (Alike cmpT ls x (x :: aa) ms) ∧ Hid (W.heap.size ≤ wr.heap.size) ∧ Hid (ms.length ≤ 1000000000)) (fun av _ => ls.flatten.length - sliceLen av)
  case atStart => exact ⟨_, _, [], _, rfl, HA0.out, HL0.out, HW0.out, HN0.out⟩
  case round =>
    clear HA0 HL0 HW0 HN0
    obtain ⟨g, cap, aa, ns, rfl, HA, HL, HW, HN⟩ := hrel
    have CLen : Hid (∀ W2 : World, Below wr.heap.size wr W2 → Calls Tryz.prog 162 #[.pointer (some ⟨hb, 0, none⟩)] W2 fun e w' => e = .returned (.int .i64 ns.length) ∧ W2 = w') := fun W2 h2 => heapLenS_any W2 (HA.out.heap.kept h2)
    by_cases hns : ns = []
    · subst hns
      have HH := hide (HA.out.heap.less (K' := K) fun k o h => .inl h)
      have HRow := hide HA.out.row
      have HE := hide (HL.out.ends cmpT_ok (.inl rfl))
      clear HA
      go_wp2
      go_quiet ((go_at_call 162; exact Calls.quiet_of_same ((CLen.out _ (rest_drewN _ _)).mono fun e w2 h => ⟨h.1, h.2.symm⟩)))
      all_goals
        go_wp2
        go_ret
        exact ⟨_, x, aa, [], rfl, HRow.out.kept fun k _ => rfl, HL.out, HE.out, HH.out.kept (rest_drewN _ _), HW.out, Nat.zero_le _⟩
    · obtain ⟨g1, n1, k1, y, t1, b, o, q, d0, d1, c0, hn1, c1, hb0, p0, p1, hEy, hmem, hmin, hg1⟩ := HA.out.heap.top hns
      have f1 := HA.out.heap.c1
      have hlt := HA.out.heap.lt
      obtain ⟨z0, z1, r0, r1, hEx, hgl⟩ := HA.out.row.first
      have hbl := HA.out.heap.below
      have hs := hbl.size
      have m0 := (hbl.cell (p := ⟨b, o, none⟩) hb0).trans p0
      have m1 := (hbl.cell (p := ⟨b, o + 1, none⟩) hb0).trans p1
      have hlen := HFl.out aa ns HL.out
      have hnp : 0 < ns.length := List.length_pos_iff.2 hns
      have hnl := HN.out
      have hall : ∀ u ∈ ls.flatten, SmS u := fun u hu => by
        obtain ⟨k, hk, h⟩ := List.mem_flatten.1 hu
        exact HSm.out k hk u h
      have hsub : ∀ k ∈ ns, ∀ u ∈ k, SmS u := fun k hk u hu => hall u (HL.out.perm.mem_iff.2 (List.mem_append_right _ (List.mem_flatten.2 ⟨k, hk, hu⟩)))
      have hsx : SmS x := hall x (HL.out.perm.mem_iff.2 (by simp))
      have CC : Hid (∀ W2 : World, Below wr.heap.size wr W2 → Calls Tryz.prog 161 #[.agg #[z0, z1], .agg #[d0, d1]] W2 fun e w' => e = .returned (.int .i64 (cmpT x y)) ∧ Below wr.heap.size W2 w') := fun W2 h2 => by
        refine (cmpS_any x y z0 z1 d0 d1 w0 W2 hEx hEy (fun k hk => ((hbl.trans (h2.mono hs)).block k hk)) (Nat.le_trans hs h2.size) hsx (hsub _ hmem y (List.mem_cons_self ..))).mono fun e w' ⟨h, hb⟩ => ⟨h, hb.mono h2.size⟩
      have n0 : (0 : Int) < (ns.length : Int) := by omega
      have n1' : (0 : Int) < (n1 : Int) := by omega
      have n2 : decide ((0 : Int) < (ns.length : Int)) = true := decide_eq_true n0
      have HEx := hide hEx
      have HEy := hide hEy
      have HMem := hide hmem
      have HMin := hide hmin
      have HSub := hide hsub
      obtain ⟨rfl, rfl⟩ := id hEx; obtain ⟨rfl, rfl⟩ := id hEy
      clear hEx hEy hmem hmin hsub hbl p0 p1 hall hsx
      go_wp2
      as_aux_lemma =>
        go_region_held3 (fun w' => w'.cell? ⟨hb, 0, none⟩ = some (.slice (some ⟨g1, 0, none⟩) n1 k1) ∧ w'.cell? ⟨hb, 1, none⟩ = some (.func (.func 161) #[] #[]) ∧ w'.cell? ⟨g1, 0, none⟩ = some (.slice (some ⟨b, o, none⟩) (t1.length + 1) q) ∧ w'.cell? ⟨b, o, none⟩ = some (.int .i64 y.1) ∧ w'.cell? ⟨b, o + 1, none⟩ = some (.int .u64 y.2) ∧ w'.cell? ⟨g, 0, none⟩ = some (.int .i64 x.1) ∧ w'.cell? ⟨g, 1, none⟩ = some (.int .u64 x.2)) (go_keep) (first | (go_at_call 162; refine (CLen.out _ (Below.refl _ _).drew).mono ?_; rintro e w2 ⟨rfl, rfl⟩) | (go_at_call 161; refine (CC.out _ (Below.refl _ _).drew).mono ?_; rintro e w2 ⟨rfl, hb3⟩; have y0 := (hb3.cell (p := ⟨hb, 0, none⟩) hlt).trans c0; have y1 := (hb3.cell (p := ⟨hb, 1, none⟩) hlt).trans f1; have y2 := (hb3.cell (p := ⟨g1, 0, none⟩) hg1).trans c1; have y4 := (hb3.cell (p := ⟨b, o, none⟩) (by show b < wr.heap.size; omega)).trans m0; have y5 := (hb3.cell (p := ⟨b, o + 1, none⟩) (by show b < wr.heap.size; omega)).trans m1; have y6 := (hb3.cell (p := ⟨g, 0, none⟩) hgl).trans r0; have y7 := (hb3.cell (p := ⟨g, 1, none⟩) hgl).trans r1))
        all_goals
          have HB := hide ((Below.refl wr.heap.size wr).drew.trans hb3)
          clear hb3 y0 y1 y2 y4 y5 y6 y7 c0 c1 f1 m0 m1 r0 r1 CC CLen
          by_cases hc : cmpT x y = 0
          · have hcd : ((cmpT x y) == (0 : Int)) = true := by simp [hc]
            have CT := hide (takeLeastS_any w2 (HA.out.heap.kept HB.out) HSub.out hnl hns)
            have HFin : Hid (∀ x' t' ms', ns.Perm ((x' :: t') :: ms') → (∀ k ∈ ns, ∀ z, k.head? = some z → cmpT x' z ≤ 0) → Alike cmpT ls x (x :: (aa ++ [x'])) (restOf t' ms') ∧ (restOf t' ms').length ≤ 1000000000) := fun x' t' ms' hP hM => by
              have h1 := hM _ HMem.out y rfl
              have h2 := HMin.out _ (hP.mem_iff.2 (List.mem_cons_self ..)) x' rfl
              have h3 := cmpT_ok.neg x' y
              refine ⟨HL.out.next hP (List.Perm.refl _) (cmpT_ok.eqv0 hc (by omega)), ?_⟩
              have h4 := restOf_len t' ms'
              have h5 := hP.length_eq
              simp at h5
              omega
            obtain ⟨og, hog⟩ : ∃ og, wr.heap[g]? = some og := ⟨_, Array.getElem?_eq_getElem hgl⟩
            have hf1 : 1 ≤ ns.flatten.length := by
              have := List.length_pos_of_mem (List.mem_flatten.2 ⟨_, HMem.out, List.mem_cons_self ..⟩ : y ∈ ns.flatten)
              omega
            clear HMem HMin HSub
            go_wp2_with fail
            refine CT.out.mono ?_
            rintro e w3 ⟨e0, e1, x', t', ms', rfl, hE', hP', hM', hH', hsz'⟩
            have hgk := hH'.kp (k := g) (.inr ⟨rfl, hog⟩)
            obtain ⟨vals, hvl, hvo, hve⟩ := HA.out.row.row
            obtain ⟨ca, cc, ce⟩ := own_shape hvo
            cases ce
            have hvo3 : w3.ownsRow w0.heap.size 34 2 (.slice (some ⟨g, 0, none⟩) (aa.length + 1) cap) (aa.length + 1) (serCells vals) := own_kept hvo fun k e => by cases e; exact hgk.trans hog.symm
            have HO3 := hide hvo3
            have HNx := hide (HFin.out x' t' ms' hP' hM')
            have HH3 := hide hH'
            have HE' := hide hE'
            have HVl := hide hvl
            have HVe := hide hve
            have hw3 := hH'.below.size
            have HS3 := hide hsz'
            obtain ⟨rfl, rfl⟩ := id hE'
            clear CT HFin hE' hP' hM' hH' hvl hvo hve hvo3
            go_wp2_with (first | (at_builtin; refine wpList_append_lies _ (by rfl) (.tmp 29) (.tmp 32) 35 (by rfl) w0.heap.size 34 i0 (.agg #[(.int .i64 0), (.int .u64 0)]) 2 16 Tryz.underlying35 hi hz0 hz1 hz2 rfl (by decide) (.slice (some ⟨g, 0, none⟩) (aa.length + 1) cap) (aa.length + 1) (serCells vals) (by rfl) (own_alloc HO3.out _) ⟨w3.heap.size, 0, none⟩ 1 1 [(Value.int .i64 x'.1), (Value.int .u64 x'.2)] (by rfl) rfl (cells_new _ _ _) (one_two rfl rfl) (by decide) (by unfold maxLen; omega) (by omega) (by simp; omega) (w3.heap.size + 1) (by simp) ?_; intro g2 cap2 w4 hown4 hgrow hat hgl4))
            all_goals
              have HA4 : Hid (AlkS w0 K w4 hb g2 (aa.length + 1 + 1) cap2 (x :: (aa ++ [x'])) (restOf t' ms')) := by
                have hK0 : ∀ k o, K k o → k ≠ g ∧ w3.heap[k]? = some o := fun k o hk => ⟨fun e => HA.out.out o (e ▸ hk), HH3.out.kp (.inl hk)⟩
                have hkeep : ∀ k, k < w3.heap.size → k ≠ g → w4.heap[k]? = w3.heap[k]? := fun k hk hne => (hgrow.block k (by simp; omega) (fun e => hne (Option.some.inj e))).trans (heap_alloc_old w3 _ hk)
                have hs4 : w3.heap.size ≤ w4.heap.size := by have := hgrow.size; simp at this; omega
                refine ⟨⟨vals ++ [((Value.int .i64 x'.1), (Value.int .u64 x'.2))], by simp [HVl.out], ?_, fun i p u hp hu => ?_⟩, ?_, fun o ho => ?_⟩
                · rw [serCells_snoc]
                  have el : (x :: (aa ++ [x'])).length = aa.length + 1 + 1 := by simp
                  rw [el]; exact hown4
                · have hu' : ((x :: aa) ++ [x'])[i]? = some u := hu
                  rcases getElem?_snoc hp with ⟨hi, hp⟩ | ⟨hi, rfl⟩
                  · rw [List.getElem?_append_left (by rw [← HVl.out]; exact hi)] at hu'
                    exact HVe.out i p u hp hu'
                  · rw [hi, HVl.out, List.getElem?_append_right (Nat.le_refl _), Nat.sub_self] at hu'
                    cases hu'
                    exact HE'.out
                · refine HH3.out.move hs4 (fun k hk hn => hkeep k hk fun e => hn og (.inr ⟨e, by rw [e]; exact hog⟩)) (fun k o hk => ?_) ((HH3.out.below.alloc hw3 _).grown hgrow (by simp; omega) fun k e => by cases e; exact (World.ownsRow.lt HO3.out _ rfl).1)
                  rcases hk with hk | ⟨rfl, hk⟩
                  · obtain ⟨h1, h2⟩ := hK0 k o hk
                    exact ⟨(hkeep k (lt_of_heapS h2) h1).trans h2, .inl ⟨o, .inl hk⟩⟩
                  · refine ⟨hk, ?_⟩
                    rcases hat with hat | hat
                    · have : g = k := Option.some.inj hat
                      subst this
                      exact .inl ⟨og, .inr ⟨rfl, hog⟩⟩
                    · exact .inr (by omega)
                · obtain ⟨h1, h2⟩ := hK0 g2 o ho
                  rcases hat with hat | hat
                  · exact h1 (Option.some.inj hat).symm
                  · have := lt_of_heapS h2; omega
              have HW4 : Hid (W.heap.size ≤ w4.heap.size) := by
                show W.heap.size ≤ w4.heap.size
                have h1 := hgrow.size; simp at h1
                have h2 := HW.out
                have h3 := HB.out.size
                have h4 := HS3.out
                omega
              clear HA hown4 hgrow hat hgl4 HO3 HH3
              go_wp2
              go_roundw
              case rel => exact ⟨g2, cap2, aa ++ [x'], _, by simp, by rw [List.length_append]; exact HA4.out, HNx.out.1, HW4.out, HNx.out.2⟩
              case measure => show ls.flatten.length - (aa.length + 1 + 1) < ls.flatten.length - (aa.length + 1); omega
          · have hcd : ((cmpT x y) == (0 : Int)) = false := by simp [hc]
            have HF : Hid (HeapS w0 K w2 hb ns) := (HA.out.heap.kept HB.out).less fun k o h => .inl h
            have HRw : Hid (RowS w0 w2 (.slice (some ⟨g, 0, none⟩) (aa.length + 1) cap) (x :: aa)) := HA.out.row.kept fun k e => by cases e; exact HB.out.block g hgl
            have HE := hide (HL.out.ends cmpT_ok (.inr ⟨y, hc, List.mem_flatten.2 ⟨_, HMem.out, List.mem_cons_self ..⟩, HMin.out⟩))
            have HW2 : Hid (W.heap.size ≤ w2.heap.size) := Nat.le_trans HW.out HB.out.size
            clear HA
            go_wp2
            go_ret
            exact ⟨_, x, aa, ns, rfl, HRw.out, HL.out, HE.out, HF.out, HW2.out, HN.out⟩
end Go.Proofs.YtamcclcbmenjdaaGreatDoor

/- join's rests (of samples): restsOf. -/
namespace Go.Proofs.YtamcclcbmenjdaaGreatDoor
open Go.RowKit Go.Lib

/-- A row of lists in memory, some of them maybe empty. -/
def RowsS (w : World) (v : Value) (ls : List (List (Int × Nat))) : Prop :=
  ∃ a cap, v = .slice a ls.length cap ∧ ∀ i l, ls[i]? = some l → ∃ b o la lc, a = some ⟨b, o, none⟩ ∧ b < w.heap.size ∧ w.cell? ⟨b, o + i, none⟩ = some (.slice la l.length lc) ∧ SamplesAt w w.heap.size (.slice la l.length lc) l
theorem HeapS.zero (W : World) : HeapS W (fun _ _ => False) (W.alloc (.cells #[.slice none 0 0, .func (.func 161) #[] #[]] 268)) W.heap.size [] := by
  refine ⟨.slice none 0 0, [], [], ⟨⟨(Below.refl _ _).alloc (Nat.le_refl _) _, Nat.le_refl _, by simp, World.cell?_alloc_new _ _ _ 0, World.cell?_alloc_new _ _ _ 1, World.frozen?_alloc_new _ _ _ 0, World.ownsRow_nil _ _ _ _, (fun e => (by cases e)), (fun k o h => False.elim h)⟩, ⟨rfl, fun i v l h _ => by simp at h⟩, rfl⟩, List.Perm.refl _, fun k _ h => by simp at h⟩

set_option maxRecDepth 100000 in
set_option maxHeartbeats 1000000 in
theorem restsOfS_any {ls : List (List (Int × Nat))} (W : World) (v : Value) (hv : RowsS W v ls) (hsm : ∀ k ∈ ls, ∀ x ∈ k, SmS x) (hn : ls.length ≤ 1000000000) :
    Calls Tryz.prog 160 #[v, .func (.func 161) #[] #[]] W fun e w' => ∃ hb, e = .returned (.pointer (some ⟨hb, 0, none⟩)) ∧ HeapS W (fun _ _ => False) w' hb (full ls) := by
  obtain ⟨a, cap, rfl, hv⟩ := hv
  have HV := hide hv
  have HSm := hide hsm
  have H0 := hide (HeapS.zero W)
  clear hv hsm
  go_enter Tryz.func160, Tryz.ntmps160
  go_wp2
  go_loopw [7, 13] (fun _ iv wr => ∃ (i : Nat), i ≤ ls.length ∧ iv = .int .i64 i ∧ Hid (HeapS W (fun _ _ => False) wr W.heap.size (full (ls.take i)))) (fun _ iv _ => ls.length - (intOf iv).toNat)
  case atStart => exact ⟨0, Nat.zero_le _, rfl, H0.out⟩
  case round =>
    clear H0
    obtain ⟨i, hi, rfl, H⟩ := hrel
    by_cases hlt : i < ls.length
    · obtain ⟨l, hl⟩ : ∃ l, ls[i]? = some l := ⟨_, List.getElem?_eq_getElem hlt⟩
      obtain ⟨b, o, la, lc, rfl, hb0, c0, hA⟩ := HV.out i l hl
      have hbl := H.out.below
      have m0 := (hbl.cell (p := ⟨b, o + i, none⟩) hb0).trans c0
      have ht := take_more ls i l hl
      have C := hide (addS_any wr H.out la lc l hA (fun k hk x hx => by
        rcases List.mem_cons.1 hk with rfl | hk
        · exact HSm.out _ (List.mem_of_getElem? hl) x hx
        · exact HSm.out k (List.mem_of_mem_take (List.mem_filter.1 hk).1) x hx) (by have := full_len (ls.take i); have := List.length_take_le i ls; omega))
      have HP : Hid (∀ w', HeapS W (fun _ _ => False) w' W.heap.size (restOf l (full (ls.take i))) → HeapS W (fun _ _ => False) w' W.heap.size (full (ls.take (i + 1)))) := fun w' h => by
        rw [ht]; exact h.perm (full_snoc _ _)
      have i1 : (i : Int) < (ls.length : Int) := by omega
      clear hl hA c0 hbl ht H
      go_wp2_with fail
      refine C.out.mono ?_
      rintro e w1 ⟨rfl, h1⟩
      have H1 := hide (HP.out _ h1)
      clear h1 C HP m0
      go_wp2
      go_roundw
      case rel => exact ⟨i + 1, by omega, by go_num, H1.out⟩
      case measure => simp [intOf]; omega
    · have hi' : i = ls.length := by omega
      have HE : Hid (HeapS W (fun _ _ => False) wr W.heap.size (full ls)) := by
        have h := H.out
        rw [hi', List.take_length] at h; exact h
      have i1 : ¬ (i : Int) < (ls.length : Int) := by omega
      clear H hi'
      go_wp2
      go_ret
      exact ⟨_, rfl, HE.out⟩
end Go.Proofs.YtamcclcbmenjdaaGreatDoor

/- The join of batches, pure: the order of labels, what a batch holds, and that this tells it. -/
import Derived.Test.YtcidgfdiacehmaaOrder
import Derived.Test.YtcidgfdiacehmaaRefOrd
namespace Go.Proofs.Ytcidgfdiacehmaa
open Go.RowKit Go.Lib

/- The order of labels. -/
theorem cmpB_lt (x y : ByteArray) : cmpB x y = -1 ↔ TLt x y := by
  unfold cmpB TLt
  rw [← (bl_cmp _ _).1, less_eq]; simp
theorem cmpB_zero (x y : ByteArray) : cmpB x y = 0 ↔ x = y := by
  unfold cmpB
  rw [← (bl_cmp _ _).2.1]
  exact ⟨fun h => ByteArray.ext (Array.ext' h), fun h => by rw [h]⟩
theorem cmpB_three (x y : ByteArray) : cmpB x y = -1 ∨ cmpB x y = 0 ∨ cmpB x y = 1 := (bl_cmp _ _).2.2.1
theorem cmpB_neg (x y : ByteArray) : cmpB y x = - cmpB x y := (bl_cmp _ _).2.2.2
theorem cmpB_trans {x y z : ByteArray} (h : cmpB x y = -1) (g : cmpB y z = -1) : cmpB x z = -1 :=
  (cmpB_lt x z).2 (ttrans ((cmpB_lt x y).1 h) ((cmpB_lt y z).1 g))

theorem cmpLab_three (x y : Lab) : cmpLab x y = -1 ∨ cmpLab x y = 0 ∨ cmpLab x y = 1 := by
  unfold cmpLab; split
  · exact cmpB_three _ _
  · exact cmpB_three _ _
theorem cmpLab_neg (x y : Lab) : cmpLab y x = - cmpLab x y := by
  unfold cmpLab
  rw [cmpB_neg x.1 y.1, cmpB_neg x.2 y.2]
  split <;> split <;> omega
theorem cmpLab_zero (x y : Lab) : cmpLab x y = 0 ↔ x = y := by
  unfold cmpLab
  have h1 := cmpB_zero x.1 y.1
  have h2 := cmpB_zero x.2 y.2
  constructor
  · intro h
    by_cases e : cmpB x.1 y.1 = 0
    · rw [if_pos e] at h
      exact Prod.ext (h1.1 e) (h2.1 h)
    · rw [if_neg e] at h; exact absurd h e
  · rintro rfl
    rw [if_pos (h1.2 rfl)]; exact h2.2 rfl
theorem cmpLab_trans {x y z : Lab} (h : cmpLab x y = -1) (g : cmpLab y z = -1) : cmpLab x z = -1 := by
  unfold cmpLab at h g ⊢
  by_cases e1 : cmpB x.1 y.1 = 0
  · rw [if_pos e1] at h
    have k1 := (cmpB_zero _ _).1 e1
    by_cases e2 : cmpB y.1 z.1 = 0
    · rw [if_pos e2] at g
      have k2 := (cmpB_zero _ _).1 e2
      rw [if_pos ((cmpB_zero _ _).2 (k1.trans k2))]
      exact cmpB_trans h g
    · rw [if_neg e2] at g
      rw [k1, if_neg e2]; exact g
  · rw [if_neg e1] at h
    by_cases e2 : cmpB y.1 z.1 = 0
    · have k2 := (cmpB_zero _ _).1 e2
      rw [← k2, if_neg e1]; exact h
    · rw [if_neg e2] at g
      have := cmpB_trans h g
      rw [if_neg (by omega)]; exact this

theorem cmpLabs_three : ∀ (x y : List Lab), cmpLabs x y = -1 ∨ cmpLabs x y = 0 ∨ cmpLabs x y = 1
  | [], [] => by simp [cmpLabs]
  | [], _ :: _ => by simp [cmpLabs]
  | _ :: _, [] => by simp [cmpLabs]
  | a :: r, b :: q => by
    rw [cmpLabs]; split
    · exact cmpLabs_three r q
    · exact cmpLab_three a b
theorem cmpLabs_neg : ∀ (x y : List Lab), cmpLabs y x = - cmpLabs x y
  | [], [] => by simp [cmpLabs]
  | [], _ :: _ => by simp [cmpLabs]
  | _ :: _, [] => by simp [cmpLabs]
  | a :: r, b :: q => by
    rw [cmpLabs, cmpLabs, cmpLab_neg a b, cmpLabs_neg r q]
    split <;> split <;> omega
theorem cmpLabs_zero : ∀ (x y : List Lab), cmpLabs x y = 0 ↔ x = y
  | [], [] => by simp [cmpLabs]
  | [], _ :: _ => by simp [cmpLabs]
  | _ :: _, [] => by simp [cmpLabs]
  | a :: r, b :: q => by
    rw [cmpLabs]
    constructor
    · intro h
      by_cases e : cmpLab a b = 0
      · rw [if_pos e] at h
        rw [(cmpLab_zero a b).1 e, (cmpLabs_zero r q).1 h]
      · rw [if_neg e] at h; exact absurd h e
    · intro h
      obtain ⟨rfl, rfl⟩ := List.cons.inj h
      rw [if_pos ((cmpLab_zero a a).2 rfl)]; exact (cmpLabs_zero r r).2 rfl
theorem cmpLabs_trans : ∀ {x y z : List Lab}, cmpLabs x y = -1 → cmpLabs y z = -1 → cmpLabs x z = -1
  | [], _, [], h, g => by
    rename_i y
    cases y <;> simp [cmpLabs] at h g
  | [], _, _ :: _, _, _ => rfl
  | _ :: _, [], _, h, _ => by simp [cmpLabs] at h
  | _ :: _, _ :: _, [], _, g => by simp [cmpLabs] at g
  | a :: r, b :: q, c :: s, h, g => by
    rw [cmpLabs] at h g ⊢
    by_cases e1 : cmpLab a b = 0
    · rw [if_pos e1] at h
      have k1 := (cmpLab_zero _ _).1 e1
      subst k1
      by_cases e2 : cmpLab a c = 0
      · rw [if_pos e2] at g ⊢
        exact cmpLabs_trans h g
      · rw [if_neg e2] at g ⊢; exact g
    · rw [if_neg e1] at h
      by_cases e2 : cmpLab b c = 0
      · have k2 := (cmpLab_zero _ _).1 e2
        subst k2
        rw [if_neg e1]; exact h
      · rw [if_neg e2] at g
        have := cmpLab_trans h g
        rw [if_neg (by omega)]; exact this
theorem cmpLabs_lt {x y : List Lab} (h : cmpLabs x y < 0) : cmpLabs x y = -1 := by
  have := cmpLabs_three x y; omega
theorem cmpLabs_self (x : List Lab) : cmpLabs x x = 0 := (cmpLabs_zero x x).2 rfl

/- Lists that rise. -/
theorem pairwise_get {α : Type} {R : α → α → Prop} (tr : ∀ x y z, R x y → R y z → R x z) : ∀ (l : List α), (∀ i x y, l[i]? = some x → l[i + 1]? = some y → R x y) → l.Pairwise R
  | [], _ => .nil
  | a :: r, h => by
    have ih := pairwise_get tr r fun i x y hx hy => h (i + 1) x y (by simpa using hx) (by simpa using hy)
    refine .cons (fun y hy => ?_) ih
    cases r with
    | nil => cases hy
    | cons b q =>
      have h0 := h 0 a b rfl rfl
      rcases List.mem_cons.1 hy with rfl | hy
      · exact h0
      · exact tr _ _ _ h0 ((List.pairwise_cons.1 ih).1 y hy)
theorem get_pairwise {α : Type} {R : α → α → Prop} {l : List α} (h : l.Pairwise R) {i : Nat} {x y : α} (hx : l[i]? = some x) (hy : l[i + 1]? = some y) : R x y := by
  obtain ⟨h1, e1⟩ := List.getElem?_eq_some_iff.1 hx
  obtain ⟨h2, e2⟩ := List.getElem?_eq_some_iff.1 hy
  have := List.pairwise_iff_getElem.1 h i (i + 1) h1 h2 (by omega)
  rw [e1, e2] at this; exact this
/-- Two rising lists of the same members are the same. -/
theorem rising_ext {α : Type} {R : α → α → Prop} (irr : ∀ x, ¬ R x x) (tr : ∀ x y z, R x y → R y z → R x z) : ∀ (l m : List α), l.Pairwise R → m.Pairwise R → (∀ x, x ∈ l ↔ x ∈ m) → l = m
  | [], [], _, _, _ => rfl
  | [], b :: q, _, _, h => absurd ((h b).2 (List.mem_cons_self ..)) (by simp)
  | a :: r, [], _, _, h => absurd ((h a).1 (List.mem_cons_self ..)) (by simp)
  | a :: r, b :: q, hl, hm, h => by
    obtain ⟨h1, h2⟩ := List.pairwise_cons.1 hl
    obtain ⟨g1, g2⟩ := List.pairwise_cons.1 hm
    have e : a = b := by
      rcases List.mem_cons.1 ((h a).1 (List.mem_cons_self ..)) with e | e
      · exact e
      · rcases List.mem_cons.1 ((h b).2 (List.mem_cons_self ..)) with f | f
        · exact f.symm
        · exact absurd (tr _ _ _ (h1 b f) (g1 a e)) (irr a)
    subst e
    refine congrArg (a :: ·) (rising_ext irr tr r q h2 g2 fun x => ⟨fun hx => ?_, fun hx => ?_⟩)
    · rcases List.mem_cons.1 ((h x).1 (List.mem_cons_of_mem _ hx)) with e | e
      · subst e; exact absurd (h1 x hx) (irr x)
      · exact e
    · rcases List.mem_cons.1 ((h x).2 (List.mem_cons_of_mem _ hx)) with e | e
      · subst e; exact absurd (g1 x hx) (irr x)
      · exact e

/- What a batch is, in these words. -/
def SLt (x y : Int × Nat) : Prop := x.1 < y.1
def LLt (x y : Ser) : Prop := cmpLabs x.1 y.1 = -1
theorem SLt.irr (x : Int × Nat) : ¬ SLt x x := by simp [SLt]
theorem SLt.tr (x y z : Int × Nat) (h : SLt x y) (g : SLt y z) : SLt x z := by unfold SLt at *; omega
theorem LLt.irr (x : Ser) : ¬ LLt x x := by simp [LLt, cmpLabs_self]
theorem LLt.tr (x y z : Ser) (h : LLt x y) (g : LLt y z) : LLt x z := cmpLabs_trans h g
theorem samplesOk_iff (l : List (Int × Nat)) : SamplesOk l ↔ l ≠ [] ∧ l.Pairwise SLt := by
  refine and_congr Iff.rfl ⟨fun h => pairwise_get SLt.tr l fun i x y hx hy => h i x y (List.getElem?_eq_some_iff.1 hy).1 hx hy, fun h i x y _ hx hy => get_pairwise h hx hy⟩
theorem batchOk_iff (bs : List Ser) : BatchOk bs ↔ (∀ s ∈ bs, LabelsOk s.1 ∧ SamplesOk s.2) ∧ bs.Pairwise LLt := by
  refine and_congr ⟨fun h s hs => ?_, fun h i x _ hx => h x (List.mem_of_getElem? hx)⟩ ⟨fun h => pairwise_get LLt.tr bs fun i x y hx hy => cmpLabs_lt (h i x y (List.getElem?_eq_some_iff.1 hy).1 hx hy), fun h i x y _ hx hy => ?_⟩
  · obtain ⟨i, hi, e⟩ := List.mem_iff_getElem.1 hs
    exact h i s hi (by rw [List.getElem?_eq_getElem hi, e])
  · have : cmpLabs x.1 y.1 = -1 := get_pairwise h hx hy
    omega

/-- A sample of these labels is in the batch. -/
def Holds (bs : List Ser) (l : List Lab) (t : Int) (v : Nat) : Prop := ∃ s ∈ bs, s.1 = l ∧ (t, v) ∈ s.2
theorem pair_unique {l : List (Int × Nat)} (h : l.Pairwise SLt) {t : Int} {v u : Nat} (h1 : (t, v) ∈ l) (h2 : (t, u) ∈ l) : v = u := by
  induction l with
  | nil => cases h1
  | cons a r ih =>
    obtain ⟨ha, hr⟩ := List.pairwise_cons.1 h
    rcases List.mem_cons.1 h1 with e1 | e1 <;> rcases List.mem_cons.1 h2 with e2 | e2
    · rw [← e1] at e2; exact (Prod.mk.inj e2).2.symm
    · have := ha _ e2; rw [← e1] at this; simp [SLt] at this
    · have := ha _ e1; rw [← e2] at this; simp [SLt] at this
    · exact ih hr e1 e2
theorem ser_unique {bs : List Ser} (h : bs.Pairwise LLt) {s r : Ser} (h1 : s ∈ bs) (h2 : r ∈ bs) (e : s.1 = r.1) : s = r := by
  induction bs with
  | nil => cases h1
  | cons a q ih =>
    obtain ⟨ha, hr⟩ := List.pairwise_cons.1 h
    rcases List.mem_cons.1 h1 with e1 | e1 <;> rcases List.mem_cons.1 h2 with e2 | e2
    · rw [e1, e2]
    · have := ha _ e2; rw [← e1] at this; simp [LLt, e, cmpLabs_self] at this
    · have := ha _ e1; rw [← e2] at this; simp [LLt, e, cmpLabs_self] at this
    · exact ih hr e1 e2
theorem Holds.unique {bs : List Ser} (h : BatchOk bs) {l : List Lab} {t : Int} {v u : Nat} (h1 : Holds bs l t v) (h2 : Holds bs l t u) : v = u := by
  rw [batchOk_iff] at h
  obtain ⟨s, hs, e1, m1⟩ := h1
  obtain ⟨r, hr, e2, m2⟩ := h2
  have := ser_unique h.2 hs hr (e1.trans e2.symm)
  subst this
  exact pair_unique ((samplesOk_iff _).1 (h.1 s hs).2).2 m1 m2
theorem holds_sub {a b : List Ser} (ha : BatchOk a) (hb : BatchOk b) (h : ∀ l t v, Holds a l t v ↔ Holds b l t v) : ∀ s ∈ a, s ∈ b := fun s hs => by
  rw [batchOk_iff] at ha hb
  have hso := (samplesOk_iff _).1 (ha.1 s hs).2
  obtain ⟨x, hx⟩ : ∃ x, x ∈ s.2 := List.exists_mem_of_ne_nil _ hso.1
  obtain ⟨r, hr, e, _⟩ := (h s.1 x.1 x.2).1 ⟨s, hs, rfl, hx⟩
  have hro := (samplesOk_iff _).1 (hb.1 r hr).2
  have e2 : s.2 = r.2 := by
    refine rising_ext SLt.irr SLt.tr _ _ hso.2 hro.2 fun y => ⟨fun hy => ?_, fun hy => ?_⟩
    · obtain ⟨q, hq, e3, m⟩ := (h s.1 y.1 y.2).1 ⟨s, hs, rfl, hy⟩
      rw [ser_unique hb.2 hr hq (e.trans e3.symm)]; exact m
    · obtain ⟨q, hq, e3, m⟩ := (h s.1 y.1 y.2).2 ⟨r, hr, e, hy⟩
      rw [ser_unique ha.2 hs hq e3.symm]; exact m
  have : s = r := Prod.ext e.symm e2
  rw [this]; exact hr
/-- A batch is told by what it holds. -/
theorem batch_ext {a b : List Ser} (ha : BatchOk a) (hb : BatchOk b) (h : ∀ l t v, Holds a l t v ↔ Holds b l t v) : a = b := by
  have h1 := (batchOk_iff a).1 ha
  have h2 := (batchOk_iff b).1 hb
  exact rising_ext LLt.irr LLt.tr a b h1.2 h2.2 fun s => ⟨holds_sub ha hb h s, holds_sub hb ha (fun l t v => (h l t v).symm) s⟩

/-- The join of several batches. -/
structure IsJoin (bss : List (List Ser)) (j : List Ser) : Prop where
  ok : BatchOk j
  holds : ∀ l t v, Holds j l t v ↔ (∃ bs ∈ bss, Holds bs l t v) ∧ ∀ bs ∈ bss, ∀ u, Holds bs l t u → u ≤ v
theorem IsJoin.unique {bss : List (List Ser)} {j k : List Ser} (h : IsJoin bss j) (g : IsJoin bss k) : j = k :=
  batch_ext h.ok g.ok fun l t v => (h.holds l t v).trans (g.holds l t v).symm
theorem IsJoin.perm {bss css : List (List Ser)} {j : List Ser} (h : IsJoin bss j) (hp : ∀ x, x ∈ bss ↔ x ∈ css) : IsJoin css j :=
  ⟨h.ok, fun l t v => (h.holds l t v).trans (by simp only [hp])⟩
/-- What is held of labels at a time by several batches has a greatest. -/
theorem holds_max {bss : List (List Ser)} (hok : ∀ bs ∈ bss, BatchOk bs) (l : List Lab) (t : Int) : (∃ bs ∈ bss, ∃ u, Holds bs l t u) → ∃ v, (∃ bs ∈ bss, Holds bs l t v) ∧ ∀ bs ∈ bss, ∀ u, Holds bs l t u → u ≤ v := by
  induction bss with
  | nil => rintro ⟨bs, h, _⟩; cases h
  | cons a r ih =>
    intro h
    have ih := ih fun bs hb => hok bs (List.mem_cons_of_mem _ hb)
    have ha := hok a (List.mem_cons_self ..)
    by_cases h1 : ∃ bs ∈ r, ∃ u, Holds bs l t u
    · obtain ⟨v, ⟨bs, hb, hv⟩, hmax⟩ := ih h1
      by_cases h2 : ∃ u, Holds a l t u ∧ v ≤ u
      · obtain ⟨u, hu, hle⟩ := h2
        refine ⟨u, ⟨a, List.mem_cons_self .., hu⟩, fun cs hc x hx => ?_⟩
        rcases List.mem_cons.1 hc with rfl | hc
        · exact Nat.le_of_eq (Holds.unique ha hx hu)
        · exact Nat.le_trans (hmax cs hc x hx) hle
      · refine ⟨v, ⟨bs, List.mem_cons_of_mem _ hb, hv⟩, fun cs hc x hx => ?_⟩
        rcases List.mem_cons.1 hc with rfl | hc
        · by_cases e : x ≤ v
          · exact e
          · exact absurd ⟨x, hx, by omega⟩ h2
        · exact hmax cs hc x hx
    · obtain ⟨bs, hb, u, hu⟩ := h
      rcases List.mem_cons.1 hb with rfl | hb
      · refine ⟨u, ⟨bs, List.mem_cons_self .., hu⟩, fun cs hc x hx => ?_⟩
        rcases List.mem_cons.1 hc with rfl | hc
        · exact Nat.le_of_eq (Holds.unique ha hx hu)
        · exact absurd ⟨cs, hc, x, hx⟩ h1
      · exact absurd ⟨bs, hb, u, hu⟩ h1
/-- Joins of joins are joins. -/
theorem IsJoin.group {ass bss : List (List Ser)} {j k : List Ser} (h : IsJoin ass j) (g : IsJoin (j :: bss) k) (ho : ∀ bs ∈ ass, BatchOk bs) : IsJoin (ass ++ bss) k := by
  refine ⟨g.ok, fun l t v => (g.holds l t v).trans ⟨?_, ?_⟩⟩
  · rintro ⟨⟨bs, hb, hv⟩, hmax⟩
    have up : ∀ aa ∈ ass, ∀ u, Holds aa l t u → u ≤ v := fun aa ha u hu => by
      obtain ⟨m, hm, hmm⟩ := holds_max ho l t ⟨aa, ha, u, hu⟩
      exact Nat.le_trans (hmm aa ha u hu) (hmax j (List.mem_cons_self ..) m ((h.holds l t m).2 ⟨hm, hmm⟩))
    refine ⟨?_, fun cs hc u hu => ?_⟩
    · rcases List.mem_cons.1 hb with rfl | hb
      · obtain ⟨⟨aa, ha, hx⟩, _⟩ := (h.holds l t v).1 hv
        exact ⟨aa, List.mem_append_left _ ha, hx⟩
      · exact ⟨bs, List.mem_append_right _ hb, hv⟩
    · rcases List.mem_append.1 hc with hc | hc
      · exact up cs hc u hu
      · exact hmax cs (List.mem_cons_of_mem _ hc) u hu
  · rintro ⟨⟨bs, hb, hv⟩, hmax⟩
    refine ⟨?_, fun cs hc u hu => ?_⟩
    · rcases List.mem_append.1 hb with hb | hb
      · exact ⟨j, List.mem_cons_self .., (h.holds l t v).2 ⟨⟨bs, hb, hv⟩, fun aa ha u hu => hmax aa (List.mem_append_left _ ha) u hu⟩⟩
      · exact ⟨bs, List.mem_cons_of_mem _ hb, hv⟩
    · rcases List.mem_cons.1 hc with rfl | hc
      · obtain ⟨⟨aa, ha, hx⟩, _⟩ := (h.holds l t u).1 hu
        exact hmax aa (List.mem_append_left _ ha) u hx
      · exact hmax cs (List.mem_append_right _ hc) u hu
theorem IsJoin.one {b : List Ser} (h : BatchOk b) : IsJoin [b] b :=
  ⟨h, fun l t v => ⟨fun hv => ⟨⟨b, by simp, hv⟩, fun bs hb u hu => by simp at hb; subst hb; exact Nat.le_of_eq (Holds.unique h hu hv)⟩, fun ⟨⟨bs, hb, hv⟩, _⟩ => by simp at hb; subst hb; exact hv⟩⟩
theorem IsJoin.none : IsJoin [] [] :=
  ⟨by rw [batchOk_iff]; exact ⟨fun s h => (by cases h), .nil⟩, fun l t v => ⟨fun ⟨s, h, _⟩ => (by cases h), fun ⟨⟨bs, h, _⟩, _⟩ => (by cases h)⟩⟩
end Go.Proofs.Ytcidgfdiacehmaa

/- 'choirkeep.Sound', for any list of steps (200 of them are done): whatever happens, each replica has nothing but what was written somewhere; and as long as it is up, what it once had. The first form's statement and its card: no condition beside the row's own. -/
import Derived.Test.YtamcclcbmenjdaaGreatDoorSoundG6
/- The join of batches, pure: the order of labels, what a batch holds, and that this tells it. -/
namespace Go.Proofs.YtamcclcbmenjdaaGreatDoor
open Go.RowKit Go.Lib

/- The order of labels. -/
theorem cmpB_lt (x y : ByteArray) : cmpB x y = -1 ↔ TLt x y := by
  unfold cmpB TLt
  rw [← (bl_cmp _ _).1, less_eq]; simp
theorem cmpB_zero (x y : ByteArray) : cmpB x y = 0 ↔ x = y := by
  unfold cmpB
  rw [← (bl_cmp _ _).2.1]
  exact ⟨fun h => ByteArray.ext (Array.ext' h), fun h => by rw [h]⟩
theorem cmpB_three (x y : ByteArray) : cmpB x y = -1 ∨ cmpB x y = 0 ∨ cmpB x y = 1 := (bl_cmp _ _).2.2.1
theorem cmpB_neg (x y : ByteArray) : cmpB y x = - cmpB x y := (bl_cmp _ _).2.2.2
theorem cmpB_trans {x y z : ByteArray} (h : cmpB x y = -1) (g : cmpB y z = -1) : cmpB x z = -1 :=
  (cmpB_lt x z).2 (ttrans ((cmpB_lt x y).1 h) ((cmpB_lt y z).1 g))

theorem cmpLab_three (x y : Lab) : cmpLab x y = -1 ∨ cmpLab x y = 0 ∨ cmpLab x y = 1 := by
  unfold cmpLab; split
  · exact cmpB_three _ _
  · exact cmpB_three _ _
theorem cmpLab_neg (x y : Lab) : cmpLab y x = - cmpLab x y := by
  unfold cmpLab
  rw [cmpB_neg x.1 y.1, cmpB_neg x.2 y.2]
  split <;> split <;> omega
theorem cmpLab_zero (x y : Lab) : cmpLab x y = 0 ↔ x = y := by
  unfold cmpLab
  have h1 := cmpB_zero x.1 y.1
  have h2 := cmpB_zero x.2 y.2
  constructor
  · intro h
    by_cases e : cmpB x.1 y.1 = 0
    · rw [if_pos e] at h
      exact Prod.ext (h1.1 e) (h2.1 h)
    · rw [if_neg e] at h; exact absurd h e
  · rintro rfl
    rw [if_pos (h1.2 rfl)]; exact h2.2 rfl
theorem cmpLab_trans {x y z : Lab} (h : cmpLab x y = -1) (g : cmpLab y z = -1) : cmpLab x z = -1 := by
  unfold cmpLab at h g ⊢
  by_cases e1 : cmpB x.1 y.1 = 0
  · rw [if_pos e1] at h
    have k1 := (cmpB_zero _ _).1 e1
    by_cases e2 : cmpB y.1 z.1 = 0
    · rw [if_pos e2] at g
      have k2 := (cmpB_zero _ _).1 e2
      rw [if_pos ((cmpB_zero _ _).2 (k1.trans k2))]
      exact cmpB_trans h g
    · rw [if_neg e2] at g
      rw [k1, if_neg e2]; exact g
  · rw [if_neg e1] at h
    by_cases e2 : cmpB y.1 z.1 = 0
    · have k2 := (cmpB_zero _ _).1 e2
      rw [← k2, if_neg e1]; exact h
    · rw [if_neg e2] at g
      have := cmpB_trans h g
      rw [if_neg (by omega)]; exact this

theorem cmpLabs_three : ∀ (x y : List Lab), cmpLabs x y = -1 ∨ cmpLabs x y = 0 ∨ cmpLabs x y = 1
  | [], [] => by simp [cmpLabs]
  | [], _ :: _ => by simp [cmpLabs]
  | _ :: _, [] => by simp [cmpLabs]
  | a :: r, b :: q => by
    rw [cmpLabs]; split
    · exact cmpLabs_three r q
    · exact cmpLab_three a b
theorem cmpLabs_neg : ∀ (x y : List Lab), cmpLabs y x = - cmpLabs x y
  | [], [] => by simp [cmpLabs]
  | [], _ :: _ => by simp [cmpLabs]
  | _ :: _, [] => by simp [cmpLabs]
  | a :: r, b :: q => by
    rw [cmpLabs, cmpLabs, cmpLab_neg a b, cmpLabs_neg r q]
    split <;> split <;> omega
theorem cmpLabs_zero : ∀ (x y : List Lab), cmpLabs x y = 0 ↔ x = y
  | [], [] => by simp [cmpLabs]
  | [], _ :: _ => by simp [cmpLabs]
  | _ :: _, [] => by simp [cmpLabs]
  | a :: r, b :: q => by
    rw [cmpLabs]
    constructor
    · intro h
      by_cases e : cmpLab a b = 0
      · rw [if_pos e] at h
        rw [(cmpLab_zero a b).1 e, (cmpLabs_zero r q).1 h]
      · rw [if_neg e] at h; exact absurd h e
    · intro h
      obtain ⟨rfl, rfl⟩ := List.cons.inj h
      rw [if_pos ((cmpLab_zero a a).2 rfl)]; exact (cmpLabs_zero r r).2 rfl
theorem cmpLabs_trans : ∀ {x y z : List Lab}, cmpLabs x y = -1 → cmpLabs y z = -1 → cmpLabs x z = -1
  | [], _, [], h, g => by
    rename_i y
    cases y <;> simp [cmpLabs] at h g
  | [], _, _ :: _, _, _ => rfl
  | _ :: _, [], _, h, _ => by simp [cmpLabs] at h
  | _ :: _, _ :: _, [], _, g => by simp [cmpLabs] at g
  | a :: r, b :: q, c :: s, h, g => by
    rw [cmpLabs] at h g ⊢
    by_cases e1 : cmpLab a b = 0
    · rw [if_pos e1] at h
      have k1 := (cmpLab_zero _ _).1 e1
      subst k1
      by_cases e2 : cmpLab a c = 0
      · rw [if_pos e2] at g ⊢
        exact cmpLabs_trans h g
      · rw [if_neg e2] at g ⊢; exact g
    · rw [if_neg e1] at h
      by_cases e2 : cmpLab b c = 0
      · have k2 := (cmpLab_zero _ _).1 e2
        subst k2
        rw [if_neg e1]; exact h
      · rw [if_neg e2] at g
        have := cmpLab_trans h g
        rw [if_neg (by omega)]; exact this
theorem cmpLabs_lt {x y : List Lab} (h : cmpLabs x y < 0) : cmpLabs x y = -1 := by
  have := cmpLabs_three x y; omega
theorem cmpLabs_self (x : List Lab) : cmpLabs x x = 0 := (cmpLabs_zero x x).2 rfl

/- Lists that rise. -/
theorem pairwise_get {α : Type} {R : α → α → Prop} (tr : ∀ x y z, R x y → R y z → R x z) : ∀ (l : List α), (∀ i x y, l[i]? = some x → l[i + 1]? = some y → R x y) → l.Pairwise R
  | [], _ => .nil
  | a :: r, h => by
    have ih := pairwise_get tr r fun i x y hx hy => h (i + 1) x y (by simpa using hx) (by simpa using hy)
    refine .cons (fun y hy => ?_) ih
    cases r with
    | nil => cases hy
    | cons b q =>
      have h0 := h 0 a b rfl rfl
      rcases List.mem_cons.1 hy with rfl | hy
      · exact h0
      · exact tr _ _ _ h0 ((List.pairwise_cons.1 ih).1 y hy)
theorem get_pairwise {α : Type} {R : α → α → Prop} {l : List α} (h : l.Pairwise R) {i : Nat} {x y : α} (hx : l[i]? = some x) (hy : l[i + 1]? = some y) : R x y := by
  obtain ⟨h1, e1⟩ := List.getElem?_eq_some_iff.1 hx
  obtain ⟨h2, e2⟩ := List.getElem?_eq_some_iff.1 hy
  have := List.pairwise_iff_getElem.1 h i (i + 1) h1 h2 (by omega)
  rw [e1, e2] at this; exact this
/-- Two rising lists of the same members are the same. -/
theorem rising_ext {α : Type} {R : α → α → Prop} (irr : ∀ x, ¬ R x x) (tr : ∀ x y z, R x y → R y z → R x z) : ∀ (l m : List α), l.Pairwise R → m.Pairwise R → (∀ x, x ∈ l ↔ x ∈ m) → l = m
  | [], [], _, _, _ => rfl
  | [], b :: q, _, _, h => absurd ((h b).2 (List.mem_cons_self ..)) (by simp)
  | a :: r, [], _, _, h => absurd ((h a).1 (List.mem_cons_self ..)) (by simp)
  | a :: r, b :: q, hl, hm, h => by
    obtain ⟨h1, h2⟩ := List.pairwise_cons.1 hl
    obtain ⟨g1, g2⟩ := List.pairwise_cons.1 hm
    have e : a = b := by
      rcases List.mem_cons.1 ((h a).1 (List.mem_cons_self ..)) with e | e
      · exact e
      · rcases List.mem_cons.1 ((h b).2 (List.mem_cons_self ..)) with f | f
        · exact f.symm
        · exact absurd (tr _ _ _ (h1 b f) (g1 a e)) (irr a)
    subst e
    refine congrArg (a :: ·) (rising_ext irr tr r q h2 g2 fun x => ⟨fun hx => ?_, fun hx => ?_⟩)
    · rcases List.mem_cons.1 ((h x).1 (List.mem_cons_of_mem _ hx)) with e | e
      · subst e; exact absurd (h1 x hx) (irr x)
      · exact e
    · rcases List.mem_cons.1 ((h x).2 (List.mem_cons_of_mem _ hx)) with e | e
      · subst e; exact absurd (g1 x hx) (irr x)
      · exact e

/- What a batch is, in these words. -/
def SLt (x y : Int × Nat) : Prop := x.1 < y.1
def LLt (x y : Ser) : Prop := cmpLabs x.1 y.1 = -1
theorem SLt.irr (x : Int × Nat) : ¬ SLt x x := by simp [SLt]
theorem SLt.tr (x y z : Int × Nat) (h : SLt x y) (g : SLt y z) : SLt x z := by unfold SLt at *; omega
theorem LLt.irr (x : Ser) : ¬ LLt x x := by simp [LLt, cmpLabs_self]
theorem LLt.tr (x y z : Ser) (h : LLt x y) (g : LLt y z) : LLt x z := cmpLabs_trans h g
theorem samplesOk_iff (l : List (Int × Nat)) : SamplesOk l ↔ l ≠ [] ∧ l.Pairwise SLt := by
  refine and_congr Iff.rfl ⟨fun h => pairwise_get SLt.tr l fun i x y hx hy => h i x y (List.getElem?_eq_some_iff.1 hy).1 hx hy, fun h i x y _ hx hy => get_pairwise h hx hy⟩
theorem batchOk_iff (bs : List Ser) : BatchOk bs ↔ (∀ s ∈ bs, LabelsOk s.1 ∧ SamplesOk s.2) ∧ bs.Pairwise LLt := by
  refine and_congr ⟨fun h s hs => ?_, fun h i x _ hx => h x (List.mem_of_getElem? hx)⟩ ⟨fun h => pairwise_get LLt.tr bs fun i x y hx hy => cmpLabs_lt (h i x y (List.getElem?_eq_some_iff.1 hy).1 hx hy), fun h i x y _ hx hy => ?_⟩
  · obtain ⟨i, hi, e⟩ := List.mem_iff_getElem.1 hs
    exact h i s hi (by rw [List.getElem?_eq_getElem hi, e])
  · have : cmpLabs x.1 y.1 = -1 := get_pairwise h hx hy
    omega

/-- A sample of these labels is in the batch. -/
def Holds (bs : List Ser) (l : List Lab) (t : Int) (v : Nat) : Prop := ∃ s ∈ bs, s.1 = l ∧ (t, v) ∈ s.2
theorem pair_unique {l : List (Int × Nat)} (h : l.Pairwise SLt) {t : Int} {v u : Nat} (h1 : (t, v) ∈ l) (h2 : (t, u) ∈ l) : v = u := by
  induction l with
  | nil => cases h1
  | cons a r ih =>
    obtain ⟨ha, hr⟩ := List.pairwise_cons.1 h
    rcases List.mem_cons.1 h1 with e1 | e1 <;> rcases List.mem_cons.1 h2 with e2 | e2
    · rw [← e1] at e2; exact (Prod.mk.inj e2).2.symm
    · have := ha _ e2; rw [← e1] at this; simp [SLt] at this
    · have := ha _ e1; rw [← e2] at this; simp [SLt] at this
    · exact ih hr e1 e2
theorem ser_unique {bs : List Ser} (h : bs.Pairwise LLt) {s r : Ser} (h1 : s ∈ bs) (h2 : r ∈ bs) (e : s.1 = r.1) : s = r := by
  induction bs with
  | nil => cases h1
  | cons a q ih =>
    obtain ⟨ha, hr⟩ := List.pairwise_cons.1 h
    rcases List.mem_cons.1 h1 with e1 | e1 <;> rcases List.mem_cons.1 h2 with e2 | e2
    · rw [e1, e2]
    · have := ha _ e2; rw [← e1] at this; simp [LLt, e, cmpLabs_self] at this
    · have := ha _ e1; rw [← e2] at this; simp [LLt, e, cmpLabs_self] at this
    · exact ih hr e1 e2
theorem Holds.unique {bs : List Ser} (h : BatchOk bs) {l : List Lab} {t : Int} {v u : Nat} (h1 : Holds bs l t v) (h2 : Holds bs l t u) : v = u := by
  rw [batchOk_iff] at h
  obtain ⟨s, hs, e1, m1⟩ := h1
  obtain ⟨r, hr, e2, m2⟩ := h2
  have := ser_unique h.2 hs hr (e1.trans e2.symm)
  subst this
  exact pair_unique ((samplesOk_iff _).1 (h.1 s hs).2).2 m1 m2
theorem holds_sub {a b : List Ser} (ha : BatchOk a) (hb : BatchOk b) (h : ∀ l t v, Holds a l t v ↔ Holds b l t v) : ∀ s ∈ a, s ∈ b := fun s hs => by
  rw [batchOk_iff] at ha hb
  have hso := (samplesOk_iff _).1 (ha.1 s hs).2
  obtain ⟨x, hx⟩ : ∃ x, x ∈ s.2 := List.exists_mem_of_ne_nil _ hso.1
  obtain ⟨r, hr, e, _⟩ := (h s.1 x.1 x.2).1 ⟨s, hs, rfl, hx⟩
  have hro := (samplesOk_iff _).1 (hb.1 r hr).2
  have e2 : s.2 = r.2 := by
    refine rising_ext SLt.irr SLt.tr _ _ hso.2 hro.2 fun y => ⟨fun hy => ?_, fun hy => ?_⟩
    · obtain ⟨q, hq, e3, m⟩ := (h s.1 y.1 y.2).1 ⟨s, hs, rfl, hy⟩
      rw [ser_unique hb.2 hr hq (e.trans e3.symm)]; exact m
    · obtain ⟨q, hq, e3, m⟩ := (h s.1 y.1 y.2).2 ⟨r, hr, e, hy⟩
      rw [ser_unique ha.2 hs hq e3.symm]; exact m
  have : s = r := Prod.ext e.symm e2
  rw [this]; exact hr
/-- A batch is told by what it holds. -/
theorem batch_ext {a b : List Ser} (ha : BatchOk a) (hb : BatchOk b) (h : ∀ l t v, Holds a l t v ↔ Holds b l t v) : a = b := by
  have h1 := (batchOk_iff a).1 ha
  have h2 := (batchOk_iff b).1 hb
  exact rising_ext LLt.irr LLt.tr a b h1.2 h2.2 fun s => ⟨holds_sub ha hb h s, holds_sub hb ha (fun l t v => (h l t v).symm) s⟩

/-- The join of several batches. -/
structure IsJoin (bss : List (List Ser)) (j : List Ser) : Prop where
  ok : BatchOk j
  holds : ∀ l t v, Holds j l t v ↔ (∃ bs ∈ bss, Holds bs l t v) ∧ ∀ bs ∈ bss, ∀ u, Holds bs l t u → u ≤ v
theorem IsJoin.unique {bss : List (List Ser)} {j k : List Ser} (h : IsJoin bss j) (g : IsJoin bss k) : j = k :=
  batch_ext h.ok g.ok fun l t v => (h.holds l t v).trans (g.holds l t v).symm
theorem IsJoin.perm {bss css : List (List Ser)} {j : List Ser} (h : IsJoin bss j) (hp : ∀ x, x ∈ bss ↔ x ∈ css) : IsJoin css j :=
  ⟨h.ok, fun l t v => (h.holds l t v).trans (by simp only [hp])⟩
/-- What is held of labels at a time by several batches has a greatest. -/
theorem holds_max {bss : List (List Ser)} (hok : ∀ bs ∈ bss, BatchOk bs) (l : List Lab) (t : Int) : (∃ bs ∈ bss, ∃ u, Holds bs l t u) → ∃ v, (∃ bs ∈ bss, Holds bs l t v) ∧ ∀ bs ∈ bss, ∀ u, Holds bs l t u → u ≤ v := by
  induction bss with
  | nil => rintro ⟨bs, h, _⟩; cases h
  | cons a r ih =>
    intro h
    have ih := ih fun bs hb => hok bs (List.mem_cons_of_mem _ hb)
    have ha := hok a (List.mem_cons_self ..)
    by_cases h1 : ∃ bs ∈ r, ∃ u, Holds bs l t u
    · obtain ⟨v, ⟨bs, hb, hv⟩, hmax⟩ := ih h1
      by_cases h2 : ∃ u, Holds a l t u ∧ v ≤ u
      · obtain ⟨u, hu, hle⟩ := h2
        refine ⟨u, ⟨a, List.mem_cons_self .., hu⟩, fun cs hc x hx => ?_⟩
        rcases List.mem_cons.1 hc with rfl | hc
        · exact Nat.le_of_eq (Holds.unique ha hx hu)
        · exact Nat.le_trans (hmax cs hc x hx) hle
      · refine ⟨v, ⟨bs, List.mem_cons_of_mem _ hb, hv⟩, fun cs hc x hx => ?_⟩
        rcases List.mem_cons.1 hc with rfl | hc
        · by_cases e : x ≤ v
          · exact e
          · exact absurd ⟨x, hx, by omega⟩ h2
        · exact hmax cs hc x hx
    · obtain ⟨bs, hb, u, hu⟩ := h
      rcases List.mem_cons.1 hb with rfl | hb
      · refine ⟨u, ⟨bs, List.mem_cons_self .., hu⟩, fun cs hc x hx => ?_⟩
        rcases List.mem_cons.1 hc with rfl | hc
        · exact Nat.le_of_eq (Holds.unique ha hx hu)
        · exact absurd ⟨cs, hc, x, hx⟩ h1
      · exact absurd ⟨bs, hb, u, hu⟩ h1
/-- Joins of joins are joins. -/
theorem IsJoin.group {ass bss : List (List Ser)} {j k : List Ser} (h : IsJoin ass j) (g : IsJoin (j :: bss) k) (ho : ∀ bs ∈ ass, BatchOk bs) : IsJoin (ass ++ bss) k := by
  refine ⟨g.ok, fun l t v => (g.holds l t v).trans ⟨?_, ?_⟩⟩
  · rintro ⟨⟨bs, hb, hv⟩, hmax⟩
    have up : ∀ aa ∈ ass, ∀ u, Holds aa l t u → u ≤ v := fun aa ha u hu => by
      obtain ⟨m, hm, hmm⟩ := holds_max ho l t ⟨aa, ha, u, hu⟩
      exact Nat.le_trans (hmm aa ha u hu) (hmax j (List.mem_cons_self ..) m ((h.holds l t m).2 ⟨hm, hmm⟩))
    refine ⟨?_, fun cs hc u hu => ?_⟩
    · rcases List.mem_cons.1 hb with rfl | hb
      · obtain ⟨⟨aa, ha, hx⟩, _⟩ := (h.holds l t v).1 hv
        exact ⟨aa, List.mem_append_left _ ha, hx⟩
      · exact ⟨bs, List.mem_append_right _ hb, hv⟩
    · rcases List.mem_append.1 hc with hc | hc
      · exact up cs hc u hu
      · exact hmax cs (List.mem_cons_of_mem _ hc) u hu
  · rintro ⟨⟨bs, hb, hv⟩, hmax⟩
    refine ⟨?_, fun cs hc u hu => ?_⟩
    · rcases List.mem_append.1 hb with hb | hb
      · exact ⟨j, List.mem_cons_self .., (h.holds l t v).2 ⟨⟨bs, hb, hv⟩, fun aa ha u hu => hmax aa (List.mem_append_left _ ha) u hu⟩⟩
      · exact ⟨bs, List.mem_cons_of_mem _ hb, hv⟩
    · rcases List.mem_cons.1 hc with rfl | hc
      · obtain ⟨⟨aa, ha, hx⟩, _⟩ := (h.holds l t u).1 hu
        exact hmax aa (List.mem_append_left _ ha) u hx
      · exact hmax cs (List.mem_append_right _ hc) u hu
theorem IsJoin.one {b : List Ser} (h : BatchOk b) : IsJoin [b] b :=
  ⟨h, fun l t v => ⟨fun hv => ⟨⟨b, by simp, hv⟩, fun bs hb u hu => by simp at hb; subst hb; exact Nat.le_of_eq (Holds.unique h hu hv)⟩, fun ⟨⟨bs, hb, hv⟩, _⟩ => by simp at hb; subst hb; exact hv⟩⟩
theorem IsJoin.none : IsJoin [] [] :=
  ⟨by rw [batchOk_iff]; exact ⟨fun s h => (by cases h), .nil⟩, fun l t v => ⟨fun ⟨s, h, _⟩ => (by cases h), fun ⟨⟨bs, h, _⟩, _⟩ => (by cases h)⟩⟩
end Go.Proofs.YtamcclcbmenjdaaGreatDoor

/- Rising lists brought together, pure: what is taken off a heap of rests. -/
namespace Go.Proofs.YtamcclcbmenjdaaGreatDoor
open Go.RowKit Go.Lib

/-- An order by a comparison that answers -1, 0 or 1. -/
structure Cmps {α : Type} (c : α → α → Int) : Prop where
  three : ∀ x y, c x y = -1 ∨ c x y = 0 ∨ c x y = 1
  neg : ∀ x y, c y x = - c x y
  tr : ∀ {x y z}, c x y = -1 → c y z = -1 → c x z = -1
  eqv : ∀ {x y z}, c x y = 0 → c y z = -1 → c x z = -1
theorem Cmps.self {α : Type} {c : α → α → Int} (h : Cmps c) (x : α) : c x x = 0 := by have := h.neg x x; omega
theorem Cmps.eqv2 {α : Type} {c : α → α → Int} (h : Cmps c) {x y z : α} (h1 : c x y = -1) (h2 : c y z = 0) : c x z = -1 := by
  have a1 := h.neg x y
  have a2 := h.neg y z
  have a3 := h.neg x z
  rcases h.three x z with e | e | e
  · exact e
  · have := h.eqv (x := z) (y := x) (z := y) (by omega) h1
    omega
  · have := h.tr (x := z) (y := x) (z := y) (by omega) h1
    omega
theorem Cmps.eqv0 {α : Type} {c : α → α → Int} (h : Cmps c) {x y z : α} (h1 : c x y = 0) (h2 : c y z = 0) : c x z = 0 := by
  have a1 := h.neg x y
  have a2 := h.neg y z
  have a3 := h.neg x z
  rcases h.three x z with e | e | e
  · have := h.eqv (x := y) (y := x) (z := z) (by omega) e
    omega
  · exact e
  · have := h.eqv (x := y) (y := z) (z := x) (by omega) (by omega)
    omega
theorem Cmps.le_tr {α : Type} {c : α → α → Int} (h : Cmps c) {x y z : α} (h1 : c x y ≤ 0) (h2 : c y z ≤ 0) : c x z ≤ 0 := by
  rcases h.three x y with e | e | e <;> rcases h.three y z with f | f | f <;> try omega
  · have := h.tr e f; omega
  · have := h.eqv2 e f; omega
  · have := h.eqv e f; omega
  · have := h.eqv0 e f; omega
theorem Cmps.tot {α : Type} {c : α → α → Int} (h : Cmps c) (x y : α) : c x y ≤ 0 ∨ c y x ≤ 0 := by
  have := h.neg x y; omega
theorem Cmps.lt_le {α : Type} {c : α → α → Int} (h : Cmps c) {x y z : α} (h1 : c x y = -1) (h2 : c y z ≤ 0) : c x z = -1 := by
  rcases h.three y z with f | f | f
  · exact h.tr h1 f
  · exact h.eqv2 h1 f
  · omega

def cmpT (x y : Int × Nat) : Int := if x.1 < y.1 then -1 else if y.1 < x.1 then 1 else 0
def cmpS (x y : Ser) : Int := cmpLabs x.1 y.1
theorem cmpT_ok : Cmps cmpT := by
  refine ⟨fun x y => ?_, fun x y => ?_, fun {x y z} h1 h2 => ?_, fun {x y z} h1 h2 => ?_⟩
  · unfold cmpT; split; · simp
    split <;> simp
  · unfold cmpT; split <;> split <;> (try split) <;> omega
  · unfold cmpT at *
    have a : x.1 < y.1 := by
      by_cases e : x.1 < y.1
      · exact e
      · rw [if_neg e] at h1; split at h1 <;> omega
    have b : y.1 < z.1 := by
      by_cases e : y.1 < z.1
      · exact e
      · rw [if_neg e] at h2; split at h2 <;> omega
    rw [if_pos (by omega)]
  · unfold cmpT at *
    have a : ¬ x.1 < y.1 := fun e => by rw [if_pos e] at h1; omega
    have a2 : ¬ y.1 < x.1 := fun e => by rw [if_neg a, if_pos e] at h1; omega
    have b : y.1 < z.1 := by
      by_cases e : y.1 < z.1
      · exact e
      · rw [if_neg e] at h2; split at h2 <;> omega
    rw [if_pos (by omega)]
theorem cmpT_lt (x y : Int × Nat) : cmpT x y = -1 ↔ x.1 < y.1 := by
  unfold cmpT; constructor
  · intro h
    by_cases e : x.1 < y.1
    · exact e
    · rw [if_neg e] at h; split at h <;> omega
  · intro h; rw [if_pos h]
theorem cmpT_eq (x y : Int × Nat) : cmpT x y = 0 ↔ x.1 = y.1 := by
  unfold cmpT; constructor
  · intro h
    by_cases e : x.1 < y.1
    · rw [if_pos e] at h; omega
    · rw [if_neg e] at h
      by_cases e2 : y.1 < x.1
      · rw [if_pos e2] at h; omega
      · omega
  · intro h; rw [if_neg (by omega), if_neg (by omega)]
theorem cmpS_ok : Cmps cmpS := by
  refine ⟨fun x y => cmpLabs_three _ _, fun x y => cmpLabs_neg _ _, fun h1 h2 => cmpLabs_trans h1 h2, fun {x y z} h1 h2 => ?_⟩
  have := (cmpLabs_zero _ _).1 h1
  unfold cmpS at *
  rw [this]; exact h2

/-- The rests of a heap: none is empty, each rises. -/
structure Rests {α : Type} (c : α → α → Int) (ls : List (List α)) : Prop where
  some : ∀ l ∈ ls, l ≠ []
  rise : ∀ l ∈ ls, l.Pairwise fun x y => c x y = -1
theorem Rests.perm {α : Type} {c : α → α → Int} {ls ms : List (List α)} (h : Rests c ls) (hp : ms.Perm ls) : Rests c ms :=
  ⟨fun l hl => h.some l (hp.mem_iff.1 hl), fun l hl => h.rise l (hp.mem_iff.1 hl)⟩
/-- What is left when the first of a list has been taken. -/
def restOf {α : Type} (t : List α) (ls : List (List α)) : List (List α) := if t = [] then ls else t :: ls
theorem restOf_flat {α : Type} (t : List α) (ls : List (List α)) : (restOf t ls).flatten = t ++ ls.flatten := by
  unfold restOf; split
  · rename_i h; subst h; rfl
  · rfl
theorem Rests.rest {α : Type} {c : α → α → Int} {x : α} {t : List α} {ls : List (List α)} (h : Rests c ((x :: t) :: ls)) : Rests c (restOf t ls) := by
  have h1 := h.rise _ (List.mem_cons_self ..)
  have h2 := (List.pairwise_cons.1 h1).2
  unfold restOf; split
  · exact ⟨fun l hl => h.some l (List.mem_cons_of_mem _ hl), fun l hl => h.rise l (List.mem_cons_of_mem _ hl)⟩
  · rename_i hne
    refine ⟨fun l hl => ?_, fun l hl => ?_⟩
    · rcases List.mem_cons.1 hl with rfl | hl
      · exact hne
      · exact h.some l (List.mem_cons_of_mem _ hl)
    · rcases List.mem_cons.1 hl with rfl | hl
      · exact h2
      · exact h.rise l (List.mem_cons_of_mem _ hl)
/-- The least first is the least of all. -/
theorem Rests.least {α : Type} {c : α → α → Int} (hc : Cmps c) {x : α} {ls : List (List α)} (h : Rests c ls) (hm : ∀ l ∈ ls, ∀ y, l.head? = .some y → c x y ≤ 0) : ∀ y ∈ ls.flatten, c x y ≤ 0 := fun y hy => by
  obtain ⟨l, hl, hyl⟩ := List.mem_flatten.1 hy
  cases l with
  | nil => cases hyl
  | cons a r =>
    have h1 := hm _ hl a rfl
    rcases List.mem_cons.1 hyl with rfl | hyr
    · exact h1
    · have := (List.pairwise_cons.1 (h.rise _ hl)).1 y hyr
      exact hc.le_tr h1 (by omega)

/-- Alike: all that is taken of the first kind, and what is left. -/
structure Alike {α : Type} (c : α → α → Int) (ls : List (List α)) (x : α) (aa : List α) (ms : List (List α)) : Prop where
  perm : ls.flatten.Perm (aa ++ ms.flatten)
  same : ∀ a ∈ aa, c x a = 0
  least : ∀ y ∈ ms.flatten, c x y ≤ 0
  rests : Rests c ms
theorem Alike.first {α : Type} {c : α → α → Int} (hc : Cmps c) {ls : List (List α)} {x : α} {t : List α} {ms ns : List (List α)} (hr : Rests c ls) (hp : ls.Perm ((x :: t) :: ms)) (hn : ns.Perm (restOf t ms)) (hm : ∀ l ∈ ls, ∀ y, l.head? = .some y → c x y ≤ 0) : Alike c ls x [x] ns := by
  have h1 := hr.perm hp.symm
  have hf : ls.flatten.Perm (x :: ns.flatten) := by
    refine hp.flatten.trans ?_
    show (x :: (t ++ ms.flatten)).Perm _
    refine List.Perm.cons _ ?_
    rw [← restOf_flat]
    exact hn.symm.flatten
  refine ⟨hf, fun a ha => by simp at ha; subst ha; exact hc.self _, fun y hy => ?_, h1.rest.perm hn⟩
  exact hr.least hc hm y (hf.mem_iff.2 (List.mem_cons_of_mem _ hy))
theorem Alike.next {α : Type} {c : α → α → Int} {ls : List (List α)} {x y : α} {aa t : List α} {ms ns os : List (List α)} (h : Alike c ls x aa ms) (hp : ms.Perm ((y :: t) :: ns)) (hn : os.Perm (restOf t ns)) (he : c x y = 0) : Alike c ls x (aa ++ [y]) os := by
  have hf : ms.flatten.Perm (y :: os.flatten) := by
    refine hp.flatten.trans ?_
    show (y :: (t ++ ns.flatten)).Perm _
    refine List.Perm.cons _ ?_
    rw [← restOf_flat]
    exact hn.symm.flatten
  refine ⟨?_, fun a ha => ?_, fun z hz => h.least z (hf.mem_iff.2 (List.mem_cons_of_mem _ hz)), (h.rests.perm hp.symm).rest.perm hn⟩
  · refine h.perm.trans ?_
    rw [List.append_assoc]
    exact List.Perm.append_left _ hf
  · rcases List.mem_append.1 ha with ha | ha
    · exact h.same a ha
    · simp at ha; subst ha; exact he
/-- All that is left is greater. -/
theorem Alike.ends {α : Type} {c : α → α → Int} (hc : Cmps c) {ls : List (List α)} {x : α} {aa : List α} {ms : List (List α)} (h : Alike c ls x aa ms) (hm : ms = [] ∨ ∃ y, c x y ≠ 0 ∧ y ∈ ms.flatten ∧ ∀ l ∈ ms, ∀ z, l.head? = .some z → c y z ≤ 0) : ∀ y ∈ ms.flatten, c x y = -1 := fun z hz => by
  rcases hm with rfl | ⟨y, hne, hy, hl⟩
  · simp at hz
  · have h1 := h.least y hy
    have h2 : c x y = -1 := by have := hc.three x y; omega
    exact hc.lt_le h2 (h.rests.least hc hl z hz)

/- Samples. -/
/-- j has of each time the greatest bits of d. -/
structure Tops (d j : List (Int × Nat)) : Prop where
  rise : j.Pairwise SLt
  mem : ∀ t v, (t, v) ∈ j ↔ (t, v) ∈ d ∧ ∀ u, (t, u) ∈ d → u ≤ v
theorem Tops.nil : Tops [] [] := ⟨.nil, fun t v => by simp⟩
theorem Tops.perm {d e j : List (Int × Nat)} (h : Tops d j) (hp : d.Perm e) : Tops e j := ⟨h.rise, fun t v => by rw [h.mem]; simp only [hp.mem_iff]⟩
theorem Tops.app {d j aa : List (Int × Nat)} {x m : Int × Nat} (h : Tops d j) (hs : ∀ a ∈ aa, cmpT x a = 0) (hm : m ∈ aa) (hmax : ∀ a ∈ aa, a.2 ≤ m.2) (hlt : ∀ a ∈ aa, ∀ y ∈ d, cmpT y a = -1) : Tops (d ++ aa) (j ++ [m]) := by
  have hx : ∀ a ∈ aa, a.1 = m.1 := fun a ha => by
    have h1 := (cmpT_eq _ _).1 (hs a ha)
    have h2 := (cmpT_eq _ _).1 (hs m hm)
    omega
  have hd : ∀ y ∈ d, y.1 < m.1 := fun y hy => (cmpT_lt _ _).1 (hlt m hm y hy)
  refine ⟨List.pairwise_append.2 ⟨h.rise, List.pairwise_singleton _ _, fun a ha b hb => ?_⟩, fun t v => ?_⟩
  · simp at hb; subst hb
    exact hd a ((h.mem a.1 a.2).1 ha).1
  · rw [List.mem_append, List.mem_append, h.mem]
    constructor
    · rintro (⟨h1, h2⟩ | h1)
      · refine ⟨.inl h1, fun u hu => ?_⟩
        rcases List.mem_append.1 hu with hu | hu
        · exact h2 u hu
        · have e1 := hx _ hu
          have e2 := hd _ h1
          simp only at e1 e2; omega
      · simp at h1; subst h1
        refine ⟨.inr hm, fun u hu => ?_⟩
        rcases List.mem_append.1 hu with hu | hu
        · have e2 := hd _ hu
          simp only at e2; omega
        · exact hmax _ hu
    · rintro ⟨h1 | h1, h2⟩
      · exact .inl ⟨h1, fun u hu => h2 u (List.mem_append_left _ hu)⟩
      · refine .inr ?_
        have e1 := hx _ h1
        simp only at e1
        have h3 := hmax _ h1
        have h4 := h2 m.2 (List.mem_append_right _ (by rw [e1]; exact hm))
        simp only at h3
        have : (t, v) = m := Prod.ext e1 (by simp only; omega)
        simp [this]
theorem max_of (t : Int) : ∀ (l : List (Int × Nat)), (∃ v, (t, v) ∈ l) → ∃ v, (t, v) ∈ l ∧ ∀ u, (t, u) ∈ l → u ≤ v
  | [] => by rintro ⟨v, hv⟩; cases hv
  | a :: r => by
    rintro ⟨v, hv⟩
    have ih := max_of t r
    by_cases hr : ∃ w, (t, w) ∈ r
    · obtain ⟨w, hw, hwm⟩ := ih hr
      by_cases ha : a.1 = t ∧ w ≤ a.2
      · refine ⟨a.2, by rw [← ha.1]; exact List.mem_cons_self .., fun u hu => ?_⟩
        rcases List.mem_cons.1 hu with e | hu
        · rw [← e]; exact Nat.le_refl _
        · exact Nat.le_trans (hwm u hu) ha.2
      · refine ⟨w, List.mem_cons_of_mem _ hw, fun u hu => ?_⟩
        rcases List.mem_cons.1 hu with e | hu
        · rw [← e] at ha; simp only [true_and] at ha; omega
        · exact hwm u hu
    · rcases List.mem_cons.1 hv with e | hv
      · refine ⟨v, by rw [e]; exact List.mem_cons_self .., fun u hu => ?_⟩
        rcases List.mem_cons.1 hu with e2 | hu
        · rw [← e] at e2; exact Nat.le_of_eq (Prod.mk.inj e2).2
        · exact absurd ⟨u, hu⟩ hr
      · exact absurd ⟨v, hv⟩ hr
theorem Tops.ne {d j : List (Int × Nat)} (h : Tops d j) (hd : d ≠ []) : j ≠ [] := by
  obtain ⟨x, hx⟩ := List.exists_mem_of_ne_nil _ hd
  obtain ⟨v, hv, hm⟩ := max_of x.1 d ⟨x.2, hx⟩
  intro e
  have := (h.mem x.1 v).2 ⟨hv, hm⟩
  rw [e] at this; cases this

/- Series. -/
/-- Series of the same labels aa one. -/
structure OneOf (aa : List Ser) (l : List Lab) (s : Ser) : Prop where
  labels : s.1 = l
  tops : Tops (aa.map (·.2)).flatten s.2
/-- j has of each labels of d one series, with of each time the greatest bits. -/
structure STops (d j : List Ser) : Prop where
  rise : j.Pairwise LLt
  back : ∀ s ∈ j, ∃ x ∈ d, x.1 = s.1
  forth : ∀ x ∈ d, ∃ s ∈ j, s.1 = x.1
  tops : ∀ s ∈ j, Tops ((d.filter fun x => decide (x.1 = s.1)).map (·.2)).flatten s.2
theorem STops.nil : STops [] [] := ⟨.nil, fun _ h => (by cases h), fun _ h => (by cases h), fun _ h => (by cases h)⟩
theorem STops.app {d j aa : List Ser} {x s : Ser} (h : STops d j) (hs : ∀ a ∈ aa, cmpS x a = 0) (hne : aa ≠ []) (h1 : OneOf aa x.1 s) (hlt : ∀ a ∈ aa, ∀ y ∈ d, cmpS y a = -1) : STops (d ++ aa) (j ++ [s]) := by
  have hx : ∀ a ∈ aa, a.1 = x.1 := fun a ha => ((cmpLabs_zero _ _).1 (hs a ha)).symm
  obtain ⟨a0, ha0⟩ := List.exists_mem_of_ne_nil _ hne
  have hd : ∀ y ∈ d, cmpLabs y.1 x.1 = -1 := fun y hy => by
    have := hlt a0 ha0 y hy
    unfold cmpS at this
    rw [hx a0 ha0] at this; exact this
  have hdn : ∀ y ∈ d, y.1 ≠ x.1 := fun y hy e => by
    have := hd y hy
    rw [e, cmpLabs_self] at this; omega
  refine ⟨List.pairwise_append.2 ⟨h.rise, List.pairwise_singleton _ _, fun a ha b hb => ?_⟩, fun r hr => ?_, fun y hy => ?_, fun r hr => ?_⟩
  · simp at hb; subst hb
    obtain ⟨y, hy, e⟩ := h.back a ha
    have := hd y hy
    show cmpLabs a.1 b.1 = -1
    rw [← e, h1.labels]; exact this
  · rcases List.mem_append.1 hr with hr | hr
    · obtain ⟨y, hy, e⟩ := h.back r hr
      exact ⟨y, List.mem_append_left _ hy, e⟩
    · simp at hr; subst hr
      exact ⟨a0, List.mem_append_right _ ha0, by rw [hx a0 ha0, h1.labels]⟩
  · rcases List.mem_append.1 hy with hy | hy
    · obtain ⟨r, hr, e⟩ := h.forth y hy
      exact ⟨r, List.mem_append_left _ hr, e⟩
    · exact ⟨s, List.mem_append_right _ (by simp), by rw [hx y hy, h1.labels]⟩
  · rcases List.mem_append.1 hr with hr | hr
    · obtain ⟨y, hy, e⟩ := h.back r hr
      have hn : aa.filter (fun z => decide (z.1 = r.1)) = [] := List.filter_eq_nil_iff.2 fun z hz => by
        simp only [decide_eq_true_eq]
        intro e2
        exact hdn y hy (by rw [e, ← e2, hx z hz])
      rw [List.filter_append, hn, List.append_nil]
      exact h.tops r hr
    · simp at hr; subst hr
      have hn : d.filter (fun z => decide (z.1 = r.1)) = [] := List.filter_eq_nil_iff.2 fun z hz => by
        simp only [decide_eq_true_eq]
        rw [h1.labels]; exact hdn z hz
      have hm : aa.filter (fun z => decide (z.1 = r.1)) = aa := List.filter_eq_self.2 fun z hz => by
        simp only [decide_eq_true_eq]
        rw [h1.labels]; exact hx z hz
      rw [List.filter_append, hn, hm, List.nil_append]
      exact h1.tops
theorem STops.perm {d e j : List Ser} (h : STops d j) (hp : d.Perm e) : STops e j :=
  ⟨h.rise, fun s hs => by obtain ⟨x, hx, e⟩ := h.back s hs; exact ⟨x, hp.mem_iff.1 hx, e⟩, fun x hx => h.forth x (hp.mem_iff.2 hx), fun s hs => (h.tops s hs).perm ((hp.filter _).map _).flatten⟩
theorem LLt_cmp {bs : List Ser} (h : bs.Pairwise LLt) : bs.Pairwise fun x y => cmpS x y = -1 := h
theorem SLt_cmp {l : List (Int × Nat)} (h : l.Pairwise SLt) : l.Pairwise fun x y => cmpT x y = -1 := h.imp fun {x y} h => (cmpT_lt x y).2 h
/-- Batches whose series have been brought together so are joined. -/
theorem STops.join {bss : List (List Ser)} {j : List Ser} (h : STops bss.flatten j) (hok : ∀ bs ∈ bss, BatchOk bs) : IsJoin bss j := by
  have hmem : ∀ x ∈ bss.flatten, LabelsOk x.1 ∧ SamplesOk x.2 := fun x hx => by
    obtain ⟨bs, hb, hxb⟩ := List.mem_flatten.1 hx
    exact ((batchOk_iff bs).1 (hok bs hb)).1 x hxb
  have hin : ∀ s ∈ j, ∀ t v, (t, v) ∈ ((bss.flatten.filter fun x => decide (x.1 = s.1)).map (·.2)).flatten ↔ ∃ bs ∈ bss, Holds bs s.1 t v := fun s hs t v => by
    simp only [List.mem_flatten, List.mem_map, List.mem_filter, decide_eq_true_eq]
    constructor
    · rintro ⟨l, ⟨x, ⟨⟨bs, hb, hx⟩, e⟩, rfl⟩, hv⟩
      exact ⟨bs, hb, x, hx, e, hv⟩
    · rintro ⟨bs, hb, x, hx, e, hv⟩
      exact ⟨x.2, ⟨x, ⟨⟨bs, hb, hx⟩, e⟩, rfl⟩, hv⟩
  refine ⟨(batchOk_iff j).2 ⟨fun s hs => ?_, h.rise⟩, fun l t v => ?_⟩
  · obtain ⟨x, hx, e⟩ := h.back s hs
    refine ⟨by rw [← e]; exact (hmem x hx).1, (samplesOk_iff _).2 ⟨(h.tops s hs).ne ?_, (h.tops s hs).rise⟩⟩
    obtain ⟨y, hy⟩ := List.exists_mem_of_ne_nil _ ((samplesOk_iff _).1 (hmem x hx).2).1
    intro e2
    obtain ⟨bs, hb, hxb⟩ := List.mem_flatten.1 hx
    have := (hin s hs y.1 y.2).2 ⟨bs, hb, x, hxb, e, hy⟩
    rw [e2] at this; cases this
  · constructor
    · rintro ⟨s, hs, rfl, hv⟩
      obtain ⟨h1, h2⟩ := ((h.tops s hs).mem t v).1 hv
      exact ⟨(hin s hs t v).1 h1, fun bs hb u hu => h2 u ((hin s hs t u).2 ⟨bs, hb, hu⟩)⟩
    · rintro ⟨⟨bs, hb, x, hx, rfl, hv⟩, hmax⟩
      obtain ⟨s, hs, e⟩ := h.forth x (List.mem_flatten.2 ⟨bs, hb, hx⟩)
      refine ⟨s, hs, e, ((h.tops s hs).mem t v).2 ⟨(hin s hs t v).2 ⟨bs, hb, x, hx, e.symm, hv⟩, fun u hu => ?_⟩⟩
      obtain ⟨cs, hc, hu⟩ := (hin s hs t u).1 hu
      exact hmax cs hc u (by rw [← e]; exact hu)
end Go.Proofs.YtamcclcbmenjdaaGreatDoor

/- A sample as it is compared: by its time. -/
namespace Go.Proofs.YtamcclcbmenjdaaGreatDoor
open Go.RowKit Go.Lib

def ElS (_ : World) (x : Int × Nat) (c0 c1 : Value) : Prop := c0 = .int .i64 x.1 ∧ c1 = .int .u64 x.2
def SmS (_ : Int × Nat) : Prop := True
theorem SamplesAt.head {w : World} {B : Nat} {v : Value} {x : Int × Nat} {r : List (Int × Nat)} (h : SamplesAt w B v (x :: r)) : ∃ b o k a0 a1, v = .slice (some ⟨b, o, none⟩) (r.length + 1) k ∧ b < B ∧ w.cell? ⟨b, o, none⟩ = some a0 ∧ w.cell? ⟨b, o + 1, none⟩ = some a1 ∧ ElS w x a0 a1 := by
  obtain ⟨a, cap, rfl, _, _, h2⟩ := h
  rcases h2 with h2 | ⟨b, o, rfl, hb, hc⟩
  · cases h2
  · have := hc 0 x rfl
    simp only [Nat.zero_mul, Nat.add_zero] at this
    exact ⟨b, o, cap, _, _, rfl, hb, this.1, this.2, rfl, rfl⟩

/-- cmp.Compare of two numbers. -/
def cmpI (x y : Int) : Int := if x < y then -1 else if y < x then 1 else 0
set_option maxHeartbeats 400000 in
theorem isNaN_any (x : Int) (w : World) : Calls Tryz.prog 208 #[.int .i64 x] w fun e w' => e = .returned (.bool false) ∧ w' = w := by
  go_enter Tryz.func208, Tryz.ntmps208
  go_wp2
  go_ret
  exact ⟨by simp, rfl⟩
set_option maxRecDepth 100000 in
set_option maxHeartbeats 400000 in
theorem compareInt_any (x y : Int) (w : World) : Calls Tryz.prog 194 #[.int .i64 x, .int .i64 y] w fun e w' => e = .returned (.int .i64 (cmpI x y)) ∧ w' = w := by
  have C := hide isNaN_any
  by_cases h1 : x < y
  · have HE : Hid (cmpI x y = -1) := if_pos h1
    go_enter Tryz.func194, Tryz.ntmps194
    go_wp2_with (go_at_call 208; refine (C.out _ _).mono ?_; rintro e w' ⟨rfl, rfl⟩)
    go_ret
    exact ⟨ret_int HE.out.symm, rfl⟩
  · by_cases h2 : y < x
    · have HE : Hid (cmpI x y = 1) := by show (if x < y then (-1 : Int) else if y < x then 1 else 0) = 1; rw [if_neg h1, if_pos h2]
      go_enter Tryz.func194, Tryz.ntmps194
      go_wp2_with (go_at_call 208; refine (C.out _ _).mono ?_; rintro e w' ⟨rfl, rfl⟩)
      go_ret
      exact ⟨ret_int HE.out.symm, rfl⟩
    · have HE : Hid (cmpI x y = 0) := by show (if x < y then (-1 : Int) else if y < x then 1 else 0) = 0; rw [if_neg h1, if_neg h2]
      go_enter Tryz.func194, Tryz.ntmps194
      go_wp2_with (go_at_call 208; refine (C.out _ _).mono ?_; rintro e w' ⟨rfl, rfl⟩)
      go_ret
      exact ⟨ret_int HE.out.symm, rfl⟩
set_option maxRecDepth 100000 in
set_option maxHeartbeats 400000 in
theorem cmpS_any (x y : Int × Nat) (a0 a1 d0 d1 : Value) (w0 w : World) (h1 : ElS w0 x a0 a1) (h2 : ElS w0 y d0 d1) (_ : ∀ k, k < w0.heap.size → w.heap[k]? = w0.heap[k]?) (_ : w0.heap.size ≤ w.heap.size) (_ : SmS x) (_ : SmS y) :
    Calls Tryz.prog 161 #[.agg #[a0, a1], .agg #[d0, d1]] w fun e w' => e = .returned (.int .i64 (cmpT x y)) ∧ Below w.heap.size w w' := by
  obtain ⟨rfl, rfl⟩ := h1
  obtain ⟨rfl, rfl⟩ := h2
  have C := hide compareInt_any
  go_enter Tryz.func161, Tryz.ntmps161
  go_wp2_with (go_at_call 194; refine (C.out _ _ _).mono ?_; rintro e w' ⟨rfl, rfl⟩)
  go_ret
  exact ⟨rfl, ((Below.refl _ _).alloc (Nat.le_refl _) _).alloc (by simp) _⟩
end Go.Proofs.YtamcclcbmenjdaaGreatDoor

/- 'choirlaw.Merges', for any list of texts of bulk at most 1048576: Merge answers the document's frame or error; what is handed in stays. The second form's statement and its card: its only condition is the row's own bound on the argument's bulk. -/
import Derived.Test.YtamcclcbmenjdaaGreatDoorMergesuptoG1
import Derived.Test.YtamcclcbmenjdaaGreatDoorMergesuptoG28
/- The join of batches, pure: the order of labels, what a batch holds, and that this tells it. -/
namespace Go.Proofs.YtamcclcbmenjdaaGreatDoor
open Go.RowKit Go.Lib

/- The order of labels. -/
theorem cmpB_lt (x y : ByteArray) : cmpB x y = -1 ↔ TLt x y := by
  unfold cmpB TLt
  rw [← (bl_cmp _ _).1, less_eq]; simp
theorem cmpB_zero (x y : ByteArray) : cmpB x y = 0 ↔ x = y := by
  unfold cmpB
  rw [← (bl_cmp _ _).2.1]
  exact ⟨fun h => ByteArray.ext (Array.ext' h), fun h => by rw [h]⟩
theorem cmpB_three (x y : ByteArray) : cmpB x y = -1 ∨ cmpB x y = 0 ∨ cmpB x y = 1 := (bl_cmp _ _).2.2.1
theorem cmpB_neg (x y : ByteArray) : cmpB y x = - cmpB x y := (bl_cmp _ _).2.2.2
theorem cmpB_trans {x y z : ByteArray} (h : cmpB x y = -1) (g : cmpB y z = -1) : cmpB x z = -1 :=
  (cmpB_lt x z).2 (ttrans ((cmpB_lt x y).1 h) ((cmpB_lt y z).1 g))

theorem cmpLab_three (x y : Lab) : cmpLab x y = -1 ∨ cmpLab x y = 0 ∨ cmpLab x y = 1 := by
  unfold cmpLab; split
  · exact cmpB_three _ _
  · exact cmpB_three _ _
theorem cmpLab_neg (x y : Lab) : cmpLab y x = - cmpLab x y := by
  unfold cmpLab
  rw [cmpB_neg x.1 y.1, cmpB_neg x.2 y.2]
  split <;> split <;> omega
theorem cmpLab_zero (x y : Lab) : cmpLab x y = 0 ↔ x = y := by
  unfold cmpLab
  have h1 := cmpB_zero x.1 y.1
  have h2 := cmpB_zero x.2 y.2
  constructor
  · intro h
    by_cases e : cmpB x.1 y.1 = 0
    · rw [if_pos e] at h
      exact Prod.ext (h1.1 e) (h2.1 h)
    · rw [if_neg e] at h; exact absurd h e
  · rintro rfl
    rw [if_pos (h1.2 rfl)]; exact h2.2 rfl
theorem cmpLab_trans {x y z : Lab} (h : cmpLab x y = -1) (g : cmpLab y z = -1) : cmpLab x z = -1 := by
  unfold cmpLab at h g ⊢
  by_cases e1 : cmpB x.1 y.1 = 0
  · rw [if_pos e1] at h
    have k1 := (cmpB_zero _ _).1 e1
    by_cases e2 : cmpB y.1 z.1 = 0
    · rw [if_pos e2] at g
      have k2 := (cmpB_zero _ _).1 e2
      rw [if_pos ((cmpB_zero _ _).2 (k1.trans k2))]
      exact cmpB_trans h g
    · rw [if_neg e2] at g
      rw [k1, if_neg e2]; exact g
  · rw [if_neg e1] at h
    by_cases e2 : cmpB y.1 z.1 = 0
    · have k2 := (cmpB_zero _ _).1 e2
      rw [← k2, if_neg e1]; exact h
    · rw [if_neg e2] at g
      have := cmpB_trans h g
      rw [if_neg (by omega)]; exact this

theorem cmpLabs_three : ∀ (x y : List Lab), cmpLabs x y = -1 ∨ cmpLabs x y = 0 ∨ cmpLabs x y = 1
  | [], [] => by simp [cmpLabs]
  | [], _ :: _ => by simp [cmpLabs]
  | _ :: _, [] => by simp [cmpLabs]
  | a :: r, b :: q => by
    rw [cmpLabs]; split
    · exact cmpLabs_three r q
    · exact cmpLab_three a b
theorem cmpLabs_neg : ∀ (x y : List Lab), cmpLabs y x = - cmpLabs x y
  | [], [] => by simp [cmpLabs]
  | [], _ :: _ => by simp [cmpLabs]
  | _ :: _, [] => by simp [cmpLabs]
  | a :: r, b :: q => by
    rw [cmpLabs, cmpLabs, cmpLab_neg a b, cmpLabs_neg r q]
    split <;> split <;> omega
theorem cmpLabs_zero : ∀ (x y : List Lab), cmpLabs x y = 0 ↔ x = y
  | [], [] => by simp [cmpLabs]
  | [], _ :: _ => by simp [cmpLabs]
  | _ :: _, [] => by simp [cmpLabs]
  | a :: r, b :: q => by
    rw [cmpLabs]
    constructor
    · intro h
      by_cases e : cmpLab a b = 0
      · rw [if_pos e] at h
        rw [(cmpLab_zero a b).1 e, (cmpLabs_zero r q).1 h]
      · rw [if_neg e] at h; exact absurd h e
    · intro h
      obtain ⟨rfl, rfl⟩ := List.cons.inj h
      rw [if_pos ((cmpLab_zero a a).2 rfl)]; exact (cmpLabs_zero r r).2 rfl
theorem cmpLabs_trans : ∀ {x y z : List Lab}, cmpLabs x y = -1 → cmpLabs y z = -1 → cmpLabs x z = -1
  | [], _, [], h, g => by
    rename_i y
    cases y <;> simp [cmpLabs] at h g
  | [], _, _ :: _, _, _ => rfl
  | _ :: _, [], _, h, _ => by simp [cmpLabs] at h
  | _ :: _, _ :: _, [], _, g => by simp [cmpLabs] at g
  | a :: r, b :: q, c :: s, h, g => by
    rw [cmpLabs] at h g ⊢
    by_cases e1 : cmpLab a b = 0
    · rw [if_pos e1] at h
      have k1 := (cmpLab_zero _ _).1 e1
      subst k1
      by_cases e2 : cmpLab a c = 0
      · rw [if_pos e2] at g ⊢
        exact cmpLabs_trans h g
      · rw [if_neg e2] at g ⊢; exact g
    · rw [if_neg e1] at h
      by_cases e2 : cmpLab b c = 0
      · have k2 := (cmpLab_zero _ _).1 e2
        subst k2
        rw [if_neg e1]; exact h
      · rw [if_neg e2] at g
        have := cmpLab_trans h g
        rw [if_neg (by omega)]; exact this
theorem cmpLabs_lt {x y : List Lab} (h : cmpLabs x y < 0) : cmpLabs x y = -1 := by
  have := cmpLabs_three x y; omega
theorem cmpLabs_self (x : List Lab) : cmpLabs x x = 0 := (cmpLabs_zero x x).2 rfl

/- Lists that rise. -/
theorem pairwise_get {α : Type} {R : α → α → Prop} (tr : ∀ x y z, R x y → R y z → R x z) : ∀ (l : List α), (∀ i x y, l[i]? = some x → l[i + 1]? = some y → R x y) → l.Pairwise R
  | [], _ => .nil
  | a :: r, h => by
    have ih := pairwise_get tr r fun i x y hx hy => h (i + 1) x y (by simpa using hx) (by simpa using hy)
    refine .cons (fun y hy => ?_) ih
    cases r with
    | nil => cases hy
    | cons b q =>
      have h0 := h 0 a b rfl rfl
      rcases List.mem_cons.1 hy with rfl | hy
      · exact h0
      · exact tr _ _ _ h0 ((List.pairwise_cons.1 ih).1 y hy)
theorem get_pairwise {α : Type} {R : α → α → Prop} {l : List α} (h : l.Pairwise R) {i : Nat} {x y : α} (hx : l[i]? = some x) (hy : l[i + 1]? = some y) : R x y := by
  obtain ⟨h1, e1⟩ := List.getElem?_eq_some_iff.1 hx
  obtain ⟨h2, e2⟩ := List.getElem?_eq_some_iff.1 hy
  have := List.pairwise_iff_getElem.1 h i (i + 1) h1 h2 (by omega)
  rw [e1, e2] at this; exact this
/-- Two rising lists of the same members are the same. -/
theorem rising_ext {α : Type} {R : α → α → Prop} (irr : ∀ x, ¬ R x x) (tr : ∀ x y z, R x y → R y z → R x z) : ∀ (l m : List α), l.Pairwise R → m.Pairwise R → (∀ x, x ∈ l ↔ x ∈ m) → l = m
  | [], [], _, _, _ => rfl
  | [], b :: q, _, _, h => absurd ((h b).2 (List.mem_cons_self ..)) (by simp)
  | a :: r, [], _, _, h => absurd ((h a).1 (List.mem_cons_self ..)) (by simp)
  | a :: r, b :: q, hl, hm, h => by
    obtain ⟨h1, h2⟩ := List.pairwise_cons.1 hl
    obtain ⟨g1, g2⟩ := List.pairwise_cons.1 hm
    have e : a = b := by
      rcases List.mem_cons.1 ((h a).1 (List.mem_cons_self ..)) with e | e
      · exact e
      · rcases List.mem_cons.1 ((h b).2 (List.mem_cons_self ..)) with f | f
        · exact f.symm
        · exact absurd (tr _ _ _ (h1 b f) (g1 a e)) (irr a)
    subst e
    refine congrArg (a :: ·) (rising_ext irr tr r q h2 g2 fun x => ⟨fun hx => ?_, fun hx => ?_⟩)
    · rcases List.mem_cons.1 ((h x).1 (List.mem_cons_of_mem _ hx)) with e | e
      · subst e; exact absurd (h1 x hx) (irr x)
      · exact e
    · rcases List.mem_cons.1 ((h x).2 (List.mem_cons_of_mem _ hx)) with e | e
      · subst e; exact absurd (g1 x hx) (irr x)
      · exact e

/- What a batch is, in these words. -/
def SLt (x y : Int × Nat) : Prop := x.1 < y.1
def LLt (x y : Ser) : Prop := cmpLabs x.1 y.1 = -1
theorem SLt.irr (x : Int × Nat) : ¬ SLt x x := by simp [SLt]
theorem SLt.tr (x y z : Int × Nat) (h : SLt x y) (g : SLt y z) : SLt x z := by unfold SLt at *; omega
theorem LLt.irr (x : Ser) : ¬ LLt x x := by simp [LLt, cmpLabs_self]
theorem LLt.tr (x y z : Ser) (h : LLt x y) (g : LLt y z) : LLt x z := cmpLabs_trans h g
theorem samplesOk_iff (l : List (Int × Nat)) : SamplesOk l ↔ l ≠ [] ∧ l.Pairwise SLt := by
  refine and_congr Iff.rfl ⟨fun h => pairwise_get SLt.tr l fun i x y hx hy => h i x y (List.getElem?_eq_some_iff.1 hy).1 hx hy, fun h i x y _ hx hy => get_pairwise h hx hy⟩
theorem batchOk_iff (bs : List Ser) : BatchOk bs ↔ (∀ s ∈ bs, LabelsOk s.1 ∧ SamplesOk s.2) ∧ bs.Pairwise LLt := by
  refine and_congr ⟨fun h s hs => ?_, fun h i x _ hx => h x (List.mem_of_getElem? hx)⟩ ⟨fun h => pairwise_get LLt.tr bs fun i x y hx hy => cmpLabs_lt (h i x y (List.getElem?_eq_some_iff.1 hy).1 hx hy), fun h i x y _ hx hy => ?_⟩
  · obtain ⟨i, hi, e⟩ := List.mem_iff_getElem.1 hs
    exact h i s hi (by rw [List.getElem?_eq_getElem hi, e])
  · have : cmpLabs x.1 y.1 = -1 := get_pairwise h hx hy
    omega

/-- A sample of these labels is in the batch. -/
def Holds (bs : List Ser) (l : List Lab) (t : Int) (v : Nat) : Prop := ∃ s ∈ bs, s.1 = l ∧ (t, v) ∈ s.2
theorem pair_unique {l : List (Int × Nat)} (h : l.Pairwise SLt) {t : Int} {v u : Nat} (h1 : (t, v) ∈ l) (h2 : (t, u) ∈ l) : v = u := by
  induction l with
  | nil => cases h1
  | cons a r ih =>
    obtain ⟨ha, hr⟩ := List.pairwise_cons.1 h
    rcases List.mem_cons.1 h1 with e1 | e1 <;> rcases List.mem_cons.1 h2 with e2 | e2
    · rw [← e1] at e2; exact (Prod.mk.inj e2).2.symm
    · have := ha _ e2; rw [← e1] at this; simp [SLt] at this
    · have := ha _ e1; rw [← e2] at this; simp [SLt] at this
    · exact ih hr e1 e2
theorem ser_unique {bs : List Ser} (h : bs.Pairwise LLt) {s r : Ser} (h1 : s ∈ bs) (h2 : r ∈ bs) (e : s.1 = r.1) : s = r := by
  induction bs with
  | nil => cases h1
  | cons a q ih =>
    obtain ⟨ha, hr⟩ := List.pairwise_cons.1 h
    rcases List.mem_cons.1 h1 with e1 | e1 <;> rcases List.mem_cons.1 h2 with e2 | e2
    · rw [e1, e2]
    · have := ha _ e2; rw [← e1] at this; simp [LLt, e, cmpLabs_self] at this
    · have := ha _ e1; rw [← e2] at this; simp [LLt, e, cmpLabs_self] at this
    · exact ih hr e1 e2
theorem Holds.unique {bs : List Ser} (h : BatchOk bs) {l : List Lab} {t : Int} {v u : Nat} (h1 : Holds bs l t v) (h2 : Holds bs l t u) : v = u := by
  rw [batchOk_iff] at h
  obtain ⟨s, hs, e1, m1⟩ := h1
  obtain ⟨r, hr, e2, m2⟩ := h2
  have := ser_unique h.2 hs hr (e1.trans e2.symm)
  subst this
  exact pair_unique ((samplesOk_iff _).1 (h.1 s hs).2).2 m1 m2
theorem holds_sub {a b : List Ser} (ha : BatchOk a) (hb : BatchOk b) (h : ∀ l t v, Holds a l t v ↔ Holds b l t v) : ∀ s ∈ a, s ∈ b := fun s hs => by
  rw [batchOk_iff] at ha hb
  have hso := (samplesOk_iff _).1 (ha.1 s hs).2
  obtain ⟨x, hx⟩ : ∃ x, x ∈ s.2 := List.exists_mem_of_ne_nil _ hso.1
  obtain ⟨r, hr, e, _⟩ := (h s.1 x.1 x.2).1 ⟨s, hs, rfl, hx⟩
  have hro := (samplesOk_iff _).1 (hb.1 r hr).2
  have e2 : s.2 = r.2 := by
    refine rising_ext SLt.irr SLt.tr _ _ hso.2 hro.2 fun y => ⟨fun hy => ?_, fun hy => ?_⟩
    · obtain ⟨q, hq, e3, m⟩ := (h s.1 y.1 y.2).1 ⟨s, hs, rfl, hy⟩
      rw [ser_unique hb.2 hr hq (e.trans e3.symm)]; exact m
    · obtain ⟨q, hq, e3, m⟩ := (h s.1 y.1 y.2).2 ⟨r, hr, e, hy⟩
      rw [ser_unique ha.2 hs hq e3.symm]; exact m
  have : s = r := Prod.ext e.symm e2
  rw [this]; exact hr
/-- A batch is told by what it holds. -/
theorem batch_ext {a b : List Ser} (ha : BatchOk a) (hb : BatchOk b) (h : ∀ l t v, Holds a l t v ↔ Holds b l t v) : a = b := by
  have h1 := (batchOk_iff a).1 ha
  have h2 := (batchOk_iff b).1 hb
  exact rising_ext LLt.irr LLt.tr a b h1.2 h2.2 fun s => ⟨holds_sub ha hb h s, holds_sub hb ha (fun l t v => (h l t v).symm) s⟩

/-- The join of several batches. -/
structure IsJoin (bss : List (List Ser)) (j : List Ser) : Prop where
  ok : BatchOk j
  holds : ∀ l t v, Holds j l t v ↔ (∃ bs ∈ bss, Holds bs l t v) ∧ ∀ bs ∈ bss, ∀ u, Holds bs l t u → u ≤ v
theorem IsJoin.unique {bss : List (List Ser)} {j k : List Ser} (h : IsJoin bss j) (g : IsJoin bss k) : j = k :=
  batch_ext h.ok g.ok fun l t v => (h.holds l t v).trans (g.holds l t v).symm
theorem IsJoin.perm {bss css : List (List Ser)} {j : List Ser} (h : IsJoin bss j) (hp : ∀ x, x ∈ bss ↔ x ∈ css) : IsJoin css j :=
  ⟨h.ok, fun l t v => (h.holds l t v).trans (by simp only [hp])⟩
/-- What is held of labels at a time by several batches has a greatest. -/
theorem holds_max {bss : List (List Ser)} (hok : ∀ bs ∈ bss, BatchOk bs) (l : List Lab) (t : Int) : (∃ bs ∈ bss, ∃ u, Holds bs l t u) → ∃ v, (∃ bs ∈ bss, Holds bs l t v) ∧ ∀ bs ∈ bss, ∀ u, Holds bs l t u → u ≤ v := by
  induction bss with
  | nil => rintro ⟨bs, h, _⟩; cases h
  | cons a r ih =>
    intro h
    have ih := ih fun bs hb => hok bs (List.mem_cons_of_mem _ hb)
    have ha := hok a (List.mem_cons_self ..)
    by_cases h1 : ∃ bs ∈ r, ∃ u, Holds bs l t u
    · obtain ⟨v, ⟨bs, hb, hv⟩, hmax⟩ := ih h1
      by_cases h2 : ∃ u, Holds a l t u ∧ v ≤ u
      · obtain ⟨u, hu, hle⟩ := h2
        refine ⟨u, ⟨a, List.mem_cons_self .., hu⟩, fun cs hc x hx => ?_⟩
        rcases List.mem_cons.1 hc with rfl | hc
        · exact Nat.le_of_eq (Holds.unique ha hx hu)
        · exact Nat.le_trans (hmax cs hc x hx) hle
      · refine ⟨v, ⟨bs, List.mem_cons_of_mem _ hb, hv⟩, fun cs hc x hx => ?_⟩
        rcases List.mem_cons.1 hc with rfl | hc
        · by_cases e : x ≤ v
          · exact e
          · exact absurd ⟨x, hx, by omega⟩ h2
        · exact hmax cs hc x hx
    · obtain ⟨bs, hb, u, hu⟩ := h
      rcases List.mem_cons.1 hb with rfl | hb
      · refine ⟨u, ⟨bs, List.mem_cons_self .., hu⟩, fun cs hc x hx => ?_⟩
        rcases List.mem_cons.1 hc with rfl | hc
        · exact Nat.le_of_eq (Holds.unique ha hx hu)
        · exact absurd ⟨cs, hc, x, hx⟩ h1
      · exact absurd ⟨bs, hb, u, hu⟩ h1
/-- Joins of joins are joins. -/
theorem IsJoin.group {ass bss : List (List Ser)} {j k : List Ser} (h : IsJoin ass j) (g : IsJoin (j :: bss) k) (ho : ∀ bs ∈ ass, BatchOk bs) : IsJoin (ass ++ bss) k := by
  refine ⟨g.ok, fun l t v => (g.holds l t v).trans ⟨?_, ?_⟩⟩
  · rintro ⟨⟨bs, hb, hv⟩, hmax⟩
    have up : ∀ aa ∈ ass, ∀ u, Holds aa l t u → u ≤ v := fun aa ha u hu => by
      obtain ⟨m, hm, hmm⟩ := holds_max ho l t ⟨aa, ha, u, hu⟩
      exact Nat.le_trans (hmm aa ha u hu) (hmax j (List.mem_cons_self ..) m ((h.holds l t m).2 ⟨hm, hmm⟩))
    refine ⟨?_, fun cs hc u hu => ?_⟩
    · rcases List.mem_cons.1 hb with rfl | hb
      · obtain ⟨⟨aa, ha, hx⟩, _⟩ := (h.holds l t v).1 hv
        exact ⟨aa, List.mem_append_left _ ha, hx⟩
      · exact ⟨bs, List.mem_append_right _ hb, hv⟩
    · rcases List.mem_append.1 hc with hc | hc
      · exact up cs hc u hu
      · exact hmax cs (List.mem_cons_of_mem _ hc) u hu
  · rintro ⟨⟨bs, hb, hv⟩, hmax⟩
    refine ⟨?_, fun cs hc u hu => ?_⟩
    · rcases List.mem_append.1 hb with hb | hb
      · exact ⟨j, List.mem_cons_self .., (h.holds l t v).2 ⟨⟨bs, hb, hv⟩, fun aa ha u hu => hmax aa (List.mem_append_left _ ha) u hu⟩⟩
      · exact ⟨bs, List.mem_cons_of_mem _ hb, hv⟩
    · rcases List.mem_cons.1 hc with rfl | hc
      · obtain ⟨⟨aa, ha, hx⟩, _⟩ := (h.holds l t u).1 hu
        exact hmax aa (List.mem_append_left _ ha) u hx
      · exact hmax cs (List.mem_append_right _ hc) u hu
theorem IsJoin.one {b : List Ser} (h : BatchOk b) : IsJoin [b] b :=
  ⟨h, fun l t v => ⟨fun hv => ⟨⟨b, by simp, hv⟩, fun bs hb u hu => by simp at hb; subst hb; exact Nat.le_of_eq (Holds.unique h hu hv)⟩, fun ⟨⟨bs, hb, hv⟩, _⟩ => by simp at hb; subst hb; exact hv⟩⟩
theorem IsJoin.none : IsJoin [] [] :=
  ⟨by rw [batchOk_iff]; exact ⟨fun s h => (by cases h), .nil⟩, fun l t v => ⟨fun ⟨s, h, _⟩ => (by cases h), fun ⟨⟨bs, h, _⟩, _⟩ => (by cases h)⟩⟩
end Go.Proofs.YtamcclcbmenjdaaGreatDoor

/- A batch with one sample more, at its place: it is a join. No program here. -/
namespace Go.Proofs.YtamcclcbmenjdaaGreatDoor

/-- A sample put at its place. -/
def addS (s : Int × Nat) : List (Int × Nat) → List (Int × Nat)
  | [] => [s]
  | x :: r => if s.1 < x.1 then s :: x :: r else if x.1 = s.1 then (if x.2 < s.2 then s else x) :: r else x :: addS s r
/-- A sample of labels put at its place. -/
def addB (l : List Lab) (s : Int × Nat) : List Ser → List Ser
  | [] => [(l, [s])]
  | b :: r => if cmpLabs b.1 l < 0 then b :: addB l s r else if 0 < cmpLabs b.1 l then (l, [s]) :: b :: r else (l, addS s b.2) :: r

theorem addS_mem {s : Int × Nat} : ∀ {xs : List (Int × Nat)}, xs.Pairwise SLt → ∀ t v, (t, v) ∈ addS s xs ↔ ((t, v) ∈ xs ∨ (t, v) = s) ∧ (∀ u, (t, u) ∈ xs → u ≤ v) ∧ (t = s.1 → s.2 ≤ v)
  | [], _, t, v => by
    simp only [addS, List.mem_singleton, List.not_mem_nil, false_or, false_implies, implies_true, true_and]
    constructor
    · intro e; subst e; exact ⟨rfl, fun _ => Nat.le_refl _⟩
    · exact fun h => h.1
  | x :: r, h, t, v => by
    obtain ⟨hx, hr⟩ := List.pairwise_cons.1 h
    unfold addS
    have hone : ∀ u, (t, u) ∈ x :: r → (t, v) ∈ x :: r → u ≤ v := fun u h1 h2 => by rw [pair_unique h h1 h2]; exact Nat.le_refl _
    by_cases h1 : s.1 < x.1
    · rw [if_pos h1]
      have hno : ∀ u, (s.1, u) ∉ x :: r := fun u hu => by
        rcases List.mem_cons.1 hu with e | e
        · have : s.1 = x.1 := by rw [← e]
          omega
        · have := hx _ e; unfold SLt at this; simp only at this; omega
      constructor
      · intro hm
        rcases List.mem_cons.1 hm with e | e
        · refine ⟨.inr e, fun u hu => ?_, fun _ => by rw [← e]; exact Nat.le_refl _⟩
          exact absurd (by rw [← e]; exact hu) (hno u)
        · refine ⟨.inl e, fun u hu => hone u hu e, fun e2 => ?_⟩
          exact absurd (e2 ▸ e) (hno v)
      · rintro ⟨e | e, _, _⟩
        · exact List.mem_cons_of_mem _ e
        · rw [e]; exact List.mem_cons_self ..
    · rw [if_neg h1]
      by_cases h2 : x.1 = s.1
      · rw [if_pos h2]
        have hno : ∀ u, (s.1, u) ∉ r := fun u hu => by
          have := hx _ hu; unfold SLt at this; simp only at this; omega
        by_cases h3 : x.2 < s.2
        · rw [if_pos h3]
          constructor
          · intro hm
            rcases List.mem_cons.1 hm with e | e
            · refine ⟨.inr e, fun u hu => ?_, fun _ => by rw [← e]; exact Nat.le_refl _⟩
              rcases List.mem_cons.1 hu with e2 | e2
              · have h4 : u = x.2 := by rw [← e2]
                have h5 : v = s.2 := by rw [← e]
                omega
              · exact absurd (by rw [← e]; exact e2) (hno u)
            · exact ⟨.inl (List.mem_cons_of_mem _ e), fun u hu => hone u hu (List.mem_cons_of_mem _ e), fun e2 => absurd (e2 ▸ e) (hno v)⟩
          · rintro ⟨e | e, _, h6⟩
            · rcases List.mem_cons.1 e with e2 | e2
              · have h4 : v = x.2 := by rw [← e2]
                have h5 : t = x.1 := by rw [← e2]
                have := h6 (by omega); omega
              · exact List.mem_cons_of_mem _ e2
            · rw [e]; exact List.mem_cons_self ..
        · rw [if_neg h3]
          constructor
          · intro hm
            refine ⟨.inl hm, fun u hu => hone u hu hm, fun e2 => ?_⟩
            rcases List.mem_cons.1 hm with e | e
            · have h4 : v = x.2 := by rw [← e]
              omega
            · exact absurd (e2 ▸ e) (hno v)
          · rintro ⟨e | e, h5, h6⟩
            · exact e
            · have h7 : t = s.1 := by rw [← e]
              have h8 : v = s.2 := by rw [← e]
              have h9 : (t, x.2) ∈ x :: r := by
                have : (t, x.2) = x := by rw [h7, ← h2]
                rw [this]; exact List.mem_cons_self ..
              have := h5 _ h9
              have h10 : (t, v) = x := Prod.ext (by show t = x.1; omega) (by show v = x.2; omega)
              rw [h10]; exact List.mem_cons_self ..
      · rw [if_neg h2]
        have ih := addS_mem (s := s) hr t v
        constructor
        · intro hm
          rcases List.mem_cons.1 hm with e | e
          · refine ⟨.inl (by rw [e]; exact List.mem_cons_self ..), fun u hu => hone u hu (by rw [e]; exact List.mem_cons_self ..), fun e2 => ?_⟩
            have : t = x.1 := by rw [← e]
            omega
          · obtain ⟨i1, i2, i3⟩ := ih.1 e
            refine ⟨i1.imp (List.mem_cons_of_mem _) id, fun u hu => ?_, i3⟩
            rcases List.mem_cons.1 hu with e2 | e2
            · rcases i1 with i1 | i1
              · exact hone u hu (List.mem_cons_of_mem _ i1)
              · have h4 : t = x.1 := by rw [← e2]
                have h5 : t = s.1 := by rw [← i1]
                omega
            · exact i2 u e2
        · rintro ⟨e | e, h5, h6⟩
          · rcases List.mem_cons.1 e with e2 | e2
            · rw [e2]; exact List.mem_cons_self ..
            · exact List.mem_cons_of_mem _ (ih.2 ⟨.inl e2, fun u hu => h5 u (List.mem_cons_of_mem _ hu), h6⟩)
          · exact List.mem_cons_of_mem _ (ih.2 ⟨.inr e, fun u hu => h5 u (List.mem_cons_of_mem _ hu), h6⟩)
theorem addS_rises {s : Int × Nat} : ∀ {xs : List (Int × Nat)}, xs.Pairwise SLt → (addS s xs).Pairwise SLt
  | [], _ => by simp [addS]
  | x :: r, h => by
    obtain ⟨hx, hr⟩ := List.pairwise_cons.1 h
    unfold addS
    by_cases h1 : s.1 < x.1
    · rw [if_pos h1]
      refine List.pairwise_cons.2 ⟨fun y hy => ?_, h⟩
      rcases List.mem_cons.1 hy with rfl | hy
      · exact h1
      · exact SLt.tr s x y h1 (hx y hy)
    · rw [if_neg h1]
      by_cases h2 : x.1 = s.1
      · rw [if_pos h2]
        refine List.pairwise_cons.2 ⟨fun y hy => ?_, hr⟩
        have := hx y hy
        unfold SLt at *
        split <;> omega
      · rw [if_neg h2]
        refine List.pairwise_cons.2 ⟨fun y hy => ?_, addS_rises hr⟩
        rcases ((addS_mem hr y.1 y.2).1 hy).1 with e | e
        · exact hx _ e
        · have e1 : y.1 = s.1 := by rw [← e]
          unfold SLt; omega
theorem addS_ne {s : Int × Nat} (xs : List (Int × Nat)) : addS s xs ≠ [] := by
  cases xs with
  | nil => simp [addS]
  | cons x r => unfold addS; split <;> (try split) <;> simp
theorem addS_len (s : Int × Nat) (xs : List (Int × Nat)) : (addS s xs).length ≤ xs.length + 1 := by
  induction xs with
  | nil => simp [addS]
  | cons x r ih => unfold addS; split <;> (try split) <;> simp <;> omega
theorem addB_len (l : List Lab) (s : Int × Nat) (bs : List Ser) : (addB l s bs).length ≤ bs.length + 1 := by
  induction bs with
  | nil => simp [addB]
  | cons x r ih => unfold addB; split <;> (try split) <;> simp <;> omega
theorem addB_mem {l : List Lab} {s : Int × Nat} : ∀ {bs : List Ser} {x : Ser}, x ∈ addB l s bs → x ∈ bs ∨ x = (l, [s]) ∨ ∃ y ∈ bs, y.1 = l ∧ x = (l, addS s y.2)
  | [], x, h => .inr (.inl (by simpa [addB] using h))
  | b :: r, x, h => by
    unfold addB at h
    by_cases h1 : cmpLabs b.1 l < 0
    · rw [if_pos h1] at h
      rcases List.mem_cons.1 h with e | e
      · exact .inl (by rw [e]; exact List.mem_cons_self ..)
      · rcases addB_mem e with e | e | ⟨y, hy, e⟩
        · exact .inl (List.mem_cons_of_mem _ e)
        · exact .inr (.inl e)
        · exact .inr (.inr ⟨y, List.mem_cons_of_mem _ hy, e⟩)
    · rw [if_neg h1] at h
      by_cases h2 : 0 < cmpLabs b.1 l
      · rw [if_pos h2] at h
        rcases List.mem_cons.1 h with e | e
        · exact .inr (.inl e)
        · exact .inl e
      · rw [if_neg h2] at h
        rcases List.mem_cons.1 h with e | e
        · exact .inr (.inr ⟨b, List.mem_cons_self .., (cmpLabs_zero _ _).1 (by omega), e⟩)
        · exact .inl (List.mem_cons_of_mem _ e)
theorem cmpLabs_gt {x y : List Lab} (h : 0 < cmpLabs x y) : cmpLabs y x = -1 := by
  have := cmpLabs_neg x y
  rcases cmpLabs_three x y with e | e | e <;> omega
theorem addB_rises {l : List Lab} {s : Int × Nat} : ∀ {bs : List Ser}, bs.Pairwise LLt → (addB l s bs).Pairwise LLt
  | [], _ => by simp [addB]
  | b :: r, h => by
    obtain ⟨hx, hr⟩ := List.pairwise_cons.1 h
    unfold addB
    by_cases h1 : cmpLabs b.1 l < 0
    · rw [if_pos h1]
      refine List.pairwise_cons.2 ⟨fun y hy => ?_, addB_rises hr⟩
      rcases addB_mem hy with e | e | ⟨z, hz, e1, e2⟩
      · exact hx y e
      · unfold LLt; rw [e]; exact cmpLabs_lt h1
      · unfold LLt; rw [e2]; exact cmpLabs_lt h1
    · rw [if_neg h1]
      by_cases h2 : 0 < cmpLabs b.1 l
      · rw [if_pos h2]
        refine List.pairwise_cons.2 ⟨fun y hy => ?_, h⟩
        rcases List.mem_cons.1 hy with rfl | hy
        · exact cmpLabs_gt h2
        · exact cmpLabs_trans (cmpLabs_gt h2) (hx y hy)
      · rw [if_neg h2]
        have e : b.1 = l := (cmpLabs_zero _ _).1 (by omega)
        refine List.pairwise_cons.2 ⟨fun y hy => ?_, hr⟩
        have := hx y hy
        unfold LLt at *; rw [← e]; exact this
theorem addB_holds {l : List Lab} {s : Int × Nat} : ∀ {bs : List Ser}, bs.Pairwise LLt → (∀ x ∈ bs, x.2.Pairwise SLt) → ∀ m t v, Holds (addB l s bs) m t v ↔ (Holds bs m t v ∨ (m = l ∧ (t, v) = s)) ∧ (∀ u, Holds bs m t u → u ≤ v) ∧ (m = l → t = s.1 → s.2 ≤ v)
  | [], _, _, m, t, v => by
    constructor
    · rintro ⟨x, hx, e, hm⟩
      have hx : x = (l, [s]) := by simpa [addB] using hx
      subst hx
      have hm : (t, v) = s := by simpa using hm
      refine ⟨.inr ⟨e.symm, hm⟩, (fun u ⟨_, h, _⟩ => (by cases h)), fun _ _ => by rw [← hm]; exact Nat.le_refl _⟩
    · rintro ⟨⟨_, h, _⟩ | ⟨e, h⟩, _, _⟩
      · cases h
      · exact ⟨(l, [s]), by simp [addB], e.symm, by simp [h]⟩
  | b :: r, h, hs, m, t, v => by
    have hone : ∀ u, Holds (b :: r) m t u → Holds (b :: r) m t v → u ≤ v := fun u ⟨x, hx, e, h1⟩ ⟨y, hy, e2, h2⟩ => by
      have := ser_unique h hx hy (e.trans e2.symm)
      subst this
      rw [pair_unique (hs x hx) h1 h2]; exact Nat.le_refl _
    obtain ⟨hx, hr⟩ := List.pairwise_cons.1 h
    have hcons : ∀ (c : Ser) (q : List Ser) u, Holds (c :: q) m t u ↔ (c.1 = m ∧ (t, u) ∈ c.2) ∨ Holds q m t u := fun c q u => by
      constructor
      · rintro ⟨x, hx, e, h1⟩
        rcases List.mem_cons.1 hx with rfl | hx
        · exact .inl ⟨e, h1⟩
        · exact .inr ⟨x, hx, e, h1⟩
      · rintro (⟨e, h1⟩ | ⟨x, hx, e, h1⟩)
        · exact ⟨c, List.mem_cons_self .., e, h1⟩
        · exact ⟨x, List.mem_cons_of_mem _ hx, e, h1⟩
    have hrno : ∀ (c : List Lab), (∀ y ∈ r, cmpLabs c y.1 = -1) → ∀ u, ¬ Holds r c t u := fun c hc u ⟨y, hy, e, _⟩ => by
      have := hc y hy
      rw [e, cmpLabs_self] at this; cases this
    unfold addB
    by_cases h1 : cmpLabs b.1 l < 0
    · rw [if_pos h1, hcons, addB_holds hr (fun x hx => hs x (List.mem_cons_of_mem _ hx))]
      have hbl : b.1 ≠ l := fun e => by rw [e, cmpLabs_self] at h1; omega
      constructor
      · rintro (⟨e, hm⟩ | ⟨i1, i2, i3⟩)
        · have hH : Holds (b :: r) m t v := (hcons b r v).2 (.inl ⟨e, hm⟩)
          exact ⟨.inl hH, fun u hu => hone u hu hH, fun e2 => absurd (e.trans e2) hbl⟩
        · refine ⟨i1.imp (fun h => (hcons b r v).2 (.inr h)) id, fun u hu => ?_, i3⟩
          rcases (hcons b r u).1 hu with ⟨e, hm⟩ | hu
          · rcases i1 with i1 | ⟨i1, _⟩
            · exact absurd (e ▸ i1) (hrno b.1 (fun y hy => hx y hy) v)
            · exact absurd (e.trans i1) hbl
          · exact i2 u hu
      · rintro ⟨i1, i2, i3⟩
        rcases i1 with i1 | i1
        · rcases (hcons b r v).1 i1 with e | e
          · exact .inl e
          · exact .inr ⟨.inl e, fun u hu => i2 u ((hcons b r u).2 (.inr hu)), i3⟩
        · exact .inr ⟨.inr i1, fun u hu => i2 u ((hcons b r u).2 (.inr hu)), i3⟩
    · rw [if_neg h1]
      by_cases h2 : 0 < cmpLabs b.1 l
      · rw [if_pos h2, hcons]
        have hlno : ∀ u, ¬ Holds (b :: r) l t u := fun u ⟨y, hy, e, _⟩ => by
          rcases List.mem_cons.1 hy with rfl | hy
          · rw [e, cmpLabs_self] at h2; omega
          · have := cmpLabs_trans (cmpLabs_gt h2) (hx y hy)
            rw [e, cmpLabs_self] at this; cases this
        constructor
        · rintro (⟨e, hm⟩ | hH)
          · have hm : (t, v) = s := by simpa using hm
            have e : l = m := e
            exact ⟨.inr ⟨e.symm, hm⟩, fun u hu => absurd (e ▸ hu) (hlno u), fun _ _ => by rw [← hm]; exact Nat.le_refl _⟩
          · exact ⟨.inl hH, fun u hu => hone u hu hH, fun e => absurd (e ▸ hH) (hlno v)⟩
        · rintro ⟨i1 | ⟨e, i1⟩, _, _⟩
          · exact .inr i1
          · exact .inl ⟨e.symm, by simp [i1]⟩
      · rw [if_neg h2, hcons]
        have hbl : b.1 = l := (cmpLabs_zero _ _).1 (by omega)
        have hbs := hs b (List.mem_cons_self ..)
        by_cases hml : m = l
        · subst hml
          have hno := hrno m (fun y hy => by rw [← hbl]; exact hx y hy)
          have hH : ∀ u, Holds (b :: r) m t u ↔ (t, u) ∈ b.2 := fun u => (hcons b r u).trans ⟨fun h => h.elim (fun h => h.2) fun h => absurd h (hno u), fun h => .inl ⟨hbl, h⟩⟩
          simp only [hH, true_and, hno, or_false, forall_const]
          exact addS_mem hbs t v
        · have hmb : ¬ l = m := fun e => hml e.symm
          have hH : ∀ u, Holds (b :: r) m t u ↔ Holds r m t u := fun u => (hcons b r u).trans ⟨fun h => h.elim (fun h => absurd (hbl ▸ h.1) hmb) id, .inr⟩
          constructor
          · rintro (⟨e, _⟩ | hm)
            · exact absurd e hmb
            · exact ⟨.inl ((hH v).2 hm), fun u hu => hone u hu ((hH v).2 hm), fun e => absurd e hml⟩
          · rintro ⟨i1 | ⟨e, _⟩, _, _⟩
            · exact .inr ((hH v).1 i1)
            · exact absurd e hml
theorem batchOk_one {l : List Lab} (hl : LabelsOk l) (s : Int × Nat) : BatchOk [(l, [s])] := by
  rw [batchOk_iff]
  refine ⟨fun x hx => ?_, by simp⟩
  rw [List.mem_singleton.1 hx]
  exact ⟨hl, (samplesOk_iff _).2 ⟨by simp, by simp⟩⟩
theorem holds_one {l m : List Lab} {s : Int × Nat} {t : Int} {v : Nat} : Holds [(l, [s])] m t v ↔ m = l ∧ (t, v) = s := by
  constructor
  · rintro ⟨x, hx, e, h⟩
    rw [List.mem_singleton.1 hx] at e h
    exact ⟨e.symm, by simpa using h⟩
  · rintro ⟨e, h⟩
    exact ⟨_, List.mem_singleton.2 rfl, e.symm, by simp [h]⟩
theorem addB_join {l : List Lab} {s : Int × Nat} {bs : List Ser} (h : BatchOk bs) (hl : LabelsOk l) : IsJoin [bs, [(l, [s])]] (addB l s bs) := by
  have hb := (batchOk_iff bs).1 h
  have hr : ∀ x ∈ bs, x.2.Pairwise SLt := fun x hx => ((samplesOk_iff _).1 (hb.1 x hx).2).2
  refine ⟨(batchOk_iff _).2 ⟨fun x hx => ?_, addB_rises hb.2⟩, fun m t v => ?_⟩
  · rcases addB_mem hx with e | e | ⟨y, hy, _, e⟩
    · exact hb.1 x e
    · rw [e]; exact ⟨hl, (samplesOk_iff _).2 ⟨by simp, by simp⟩⟩
    · rw [e]; exact ⟨hl, (samplesOk_iff _).2 ⟨addS_ne _, addS_rises (hr y hy)⟩⟩
  · rw [addB_holds hb.2 hr]
    simp only [List.mem_cons, List.not_mem_nil, or_false, exists_eq_or_imp, exists_eq_left, forall_eq_or_imp, forall_eq, holds_one]
    refine and_congr Iff.rfl (and_congr Iff.rfl ⟨fun h u ⟨e, g⟩ => ?_, fun h e1 e2 => ?_⟩)
    · have := h e (by rw [← g]); rw [← g] at this; exact this
    · exact h s.2 ⟨e1, by rw [e2]⟩
/-- The samples of a batch, each a batch of its own. -/
def singles (bs : List Ser) : List (List Ser) := bs.flatMap fun s => s.2.map fun x => [(s.1, [x])]
theorem singles_holds {bs : List Ser} {m : List Lab} {t : Int} {v : Nat} : (∃ c ∈ singles bs, Holds c m t v) ↔ Holds bs m t v := by
  constructor
  · rintro ⟨c, hc, h⟩
    obtain ⟨s, hs, hc⟩ := List.mem_flatMap.1 hc
    obtain ⟨x, hx, rfl⟩ := List.mem_map.1 hc
    obtain ⟨e, g⟩ := holds_one.1 h
    exact ⟨s, hs, e.symm, by rw [g]; exact hx⟩
  · rintro ⟨s, hs, e, hx⟩
    exact ⟨[(s.1, [(t, v)])], List.mem_flatMap.2 ⟨s, hs, List.mem_map.2 ⟨_, hx, rfl⟩⟩, holds_one.2 ⟨e.symm, rfl⟩⟩
theorem IsJoin.singles {a b j : List Ser} (h : IsJoin (a :: Go.Proofs.YtamcclcbmenjdaaGreatDoor.singles b) j) : IsJoin [a, b] j := by
  refine ⟨h.ok, fun l t v => (h.holds l t v).trans ?_⟩
  simp only [List.mem_cons, List.not_mem_nil, or_false, exists_eq_or_imp, exists_eq_left, forall_eq_or_imp, forall_eq, singles_holds]
  refine and_congr Iff.rfl (and_congr Iff.rfl ⟨fun h u hu => ?_, fun h c hc u hu => h u (singles_holds.1 ⟨c, hc, hu⟩)⟩)
  obtain ⟨c, hc, hh⟩ := singles_holds.2 hu
  exact h c hc u hh
end Go.Proofs.YtamcclcbmenjdaaGreatDoor

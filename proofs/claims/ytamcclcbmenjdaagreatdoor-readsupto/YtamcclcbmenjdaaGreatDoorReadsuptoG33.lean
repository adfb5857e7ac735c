/- 'choirlaw.Reads', for any list of texts of bulk at most 1048576: Decode answers the document's batch or error, one behind the other; lists that came out are their owner's own. The second form's statement and its card: its only condition is the row's own bound on the argument's bulk. -/
import Derived.Test.YtamcclcbmenjdaaGreatDoorReadsuptoG1
import Derived.Test.YtamcclcbmenjdaaGreatDoorReadsuptoG28
import Derived.Test.YtamcclcbmenjdaaGreatDoorReadsuptoG29
import Derived.Test.YtamcclcbmenjdaaGreatDoorReadsuptoG31
import Derived.Test.YtamcclcbmenjdaaGreatDoorReadsuptoG32
/- The join of batches, pure: the order of labels, what a batch holds, and that this tells it. -/
namespace Go.Proofs.YtamcclcbmenjdaaGreatDoor
open Go.RowKit Go.Lib

/- The order of labels. -/
theorem cmpB_lt (x y : ByteArray) : cmpB x y = -1 ↔ TLt x y := by
  unfold cmpB TLt
  rw [← (bl_cmp _ _).1, less_eq]; simp
theorem cmpB_zero (x y : ByteArray) : cmpB x y = 0 ↔ x = y := by
  unfold cmpB
  rw [← (bl_cmp _ _).2.1]
  exact ⟨fun h => ByteArray.ext (Array.ext' h), fun h => by rw [h]⟩
theorem cmpB_three (x y : ByteArray) : cmpB x y = -1 ∨ cmpB x y = 0 ∨ cmpB x y = 1 := (bl_cmp _ _).2.2.1
theorem cmpB_neg (x y : ByteArray) : cmpB y x = - cmpB x y := (bl_cmp _ _).2.2.2
theorem cmpB_trans {x y z : ByteArray} (h : cmpB x y = -1) (g : cmpB y z = -1) : cmpB x z = -1 :=
  (cmpB_lt x z).2 (ttrans ((cmpB_lt x y).1 h) ((cmpB_lt y z).1 g))

theorem cmpLab_three (x y : Lab) : cmpLab x y = -1 ∨ cmpLab x y = 0 ∨ cmpLab x y = 1 := by
  unfold cmpLab; split
  · exact cmpB_three _ _
  · exact cmpB_three _ _
theorem cmpLab_neg (x y : Lab) : cmpLab y x = - cmpLab x y := by
  unfold cmpLab
  rw [cmpB_neg x.1 y.1, cmpB_neg x.2 y.2]
  split <;> split <;> omega
theorem cmpLab_zero (x y : Lab) : cmpLab x y = 0 ↔ x = y := by
  unfold cmpLab
  have h1 := cmpB_zero x.1 y.1
  have h2 := cmpB_zero x.2 y.2
  constructor
  · intro h
    by_cases e : cmpB x.1 y.1 = 0
    · rw [if_pos e] at h
      exact Prod.ext (h1.1 e) (h2.1 h)
    · rw [if_neg e] at h; exact absurd h e
  · rintro rfl
    rw [if_pos (h1.2 rfl)]; exact h2.2 rfl
theorem cmpLab_trans {x y z : Lab} (h : cmpLab x y = -1) (g : cmpLab y z = -1) : cmpLab x z = -1 := by
  unfold cmpLab at h g ⊢
  by_cases e1 : cmpB x.1 y.1 = 0
  · rw [if_pos e1] at h
    have k1 := (cmpB_zero _ _).1 e1
    by_cases e2 : cmpB y.1 z.1 = 0
    · rw [if_pos e2] at g
      have k2 := (cmpB_zero _ _).1 e2
      rw [if_pos ((cmpB_zero _ _).2 (k1.trans k2))]
      exact cmpB_trans h g
    · rw [if_neg e2] at g
      rw [k1, if_neg e2]; exact g
  · rw [if_neg e1] at h
    by_cases e2 : cmpB y.1 z.1 = 0
    · have k2 := (cmpB_zero _ _).1 e2
      rw [← k2, if_neg e1]; exact h
    · rw [if_neg e2] at g
      have := cmpB_trans h g
      rw [if_neg (by omega)]; exact this

theorem cmpLabs_three : ∀ (x y : List Lab), cmpLabs x y = -1 ∨ cmpLabs x y = 0 ∨ cmpLabs x y = 1
  | [], [] => by simp [cmpLabs]
  | [], _ :: _ => by simp [cmpLabs]
  | _ :: _, [] => by simp [cmpLabs]
  | a :: r, b :: q => by
    rw [cmpLabs]; split
    · exact cmpLabs_three r q
    · exact cmpLab_three a b
theorem cmpLabs_neg : ∀ (x y : List Lab), cmpLabs y x = - cmpLabs x y
  | [], [] => by simp [cmpLabs]
  | [], _ :: _ => by simp [cmpLabs]
  | _ :: _, [] => by simp [cmpLabs]
  | a :: r, b :: q => by
    rw [cmpLabs, cmpLabs, cmpLab_neg a b, cmpLabs_neg r q]
    split <;> split <;> omega
theorem cmpLabs_zero : ∀ (x y : List Lab), cmpLabs x y = 0 ↔ x = y
  | [], [] => by simp [cmpLabs]
  | [], _ :: _ => by simp [cmpLabs]
  | _ :: _, [] => by simp [cmpLabs]
  | a :: r, b :: q => by
    rw [cmpLabs]
    constructor
    · intro h
      by_cases e : cmpLab a b = 0
      · rw [if_pos e] at h
        rw [(cmpLab_zero a b).1 e, (cmpLabs_zero r q).1 h]
      · rw [if_neg e] at h; exact absurd h e
    · intro h
      obtain ⟨rfl, rfl⟩ := List.cons.inj h
      rw [if_pos ((cmpLab_zero a a).2 rfl)]; exact (cmpLabs_zero r r).2 rfl
theorem cmpLabs_trans : ∀ {x y z : List Lab}, cmpLabs x y = -1 → cmpLabs y z = -1 → cmpLabs x z = -1
  | [], _, [], h, g => by
    rename_i y
    cases y <;> simp [cmpLabs] at h g
  | [], _, _ :: _, _, _ => rfl
  | _ :: _, [], _, h, _ => by simp [cmpLabs] at h
  | _ :: _, _ :: _, [], _, g => by simp [cmpLabs] at g
  | a :: r, b :: q, c :: s, h, g => by
    rw [cmpLabs] at h g ⊢
    by_cases e1 : cmpLab a b = 0
    · rw [if_pos e1] at h
      have k1 := (cmpLab_zero _ _).1 e1
      subst k1
      by_cases e2 : cmpLab a c = 0
      · rw [if_pos e2] at g ⊢
        exact cmpLabs_trans h g
      · rw [if_neg e2] at g ⊢; exact g
    · rw [if_neg e1] at h
      by_cases e2 : cmpLab b c = 0
      · have k2 := (cmpLab_zero _ _).1 e2
        subst k2
        rw [if_neg e1]; exact h
      · rw [if_neg e2] at g
        have := cmpLab_trans h g
        rw [if_neg (by omega)]; exact this
theorem cmpLabs_lt {x y : List Lab} (h : cmpLabs x y < 0) : cmpLabs x y = -1 := by
  have := cmpLabs_three x y; omega
theorem cmpLabs_self (x : List Lab) : cmpLabs x x = 0 := (cmpLabs_zero x x).2 rfl

/- Lists that rise. -/
theorem pairwise_get {α : Type} {R : α → α → Prop} (tr : ∀ x y z, R x y → R y z → R x z) : ∀ (l : List α), (∀ i x y, l[i]? = some x → l[i + 1]? = some y → R x y) → l.Pairwise R
  | [], _ => .nil
  | a :: r, h => by
    have ih := pairwise_get tr r fun i x y hx hy => h (i + 1) x y (by simpa using hx) (by simpa using hy)
    refine .cons (fun y hy => ?_) ih
    cases r with
    | nil => cases hy
    | cons b q =>
      have h0 := h 0 a b rfl rfl
      rcases List.mem_cons.1 hy with rfl | hy
      · exact h0
      · exact tr _ _ _ h0 ((List.pairwise_cons.1 ih).1 y hy)
theorem get_pairwise {α : Type} {R : α → α → Prop} {l : List α} (h : l.Pairwise R) {i : Nat} {x y : α} (hx : l[i]? = some x) (hy : l[i + 1]? = some y) : R x y := by
  obtain ⟨h1, e1⟩ := List.getElem?_eq_some_iff.1 hx
  obtain ⟨h2, e2⟩ := List.getElem?_eq_some_iff.1 hy
  have := List.pairwise_iff_getElem.1 h i (i + 1) h1 h2 (by omega)
  rw [e1, e2] at this; exact this
/-- Two rising lists of the same members are the same. -/
theorem rising_ext {α : Type} {R : α → α → Prop} (irr : ∀ x, ¬ R x x) (tr : ∀ x y z, R x y → R y z → R x z) : ∀ (l m : List α), l.Pairwise R → m.Pairwise R → (∀ x, x ∈ l ↔ x ∈ m) → l = m
  | [], [], _, _, _ => rfl
  | [], b :: q, _, _, h => absurd ((h b).2 (List.mem_cons_self ..)) (by simp)
  | a :: r, [], _, _, h => absurd ((h a).1 (List.mem_cons_self ..)) (by simp)
  | a :: r, b :: q, hl, hm, h => by
    obtain ⟨h1, h2⟩ := List.pairwise_cons.1 hl
    obtain ⟨g1, g2⟩ := List.pairwise_cons.1 hm
    have e : a = b := by
      rcases List.mem_cons.1 ((h a).1 (List.mem_cons_self ..)) with e | e
      · exact e
      · rcases List.mem_cons.1 ((h b).2 (List.mem_cons_self ..)) with f | f
        · exact f.symm
        · exact absurd (tr _ _ _ (h1 b f) (g1 a e)) (irr a)
    subst e
    refine congrArg (a :: ·) (rising_ext irr tr r q h2 g2 fun x => ⟨fun hx => ?_, fun hx => ?_⟩)
    · rcases List.mem_cons.1 ((h x).1 (List.mem_cons_of_mem _ hx)) with e | e
      · subst e; exact absurd (h1 x hx) (irr x)
      · exact e
    · rcases List.mem_cons.1 ((h x).2 (List.mem_cons_of_mem _ hx)) with e | e
      · subst e; exact absurd (g1 x hx) (irr x)
      · exact e

/- What a batch is, in these words. -/
def SLt (x y : Int × Nat) : Prop := x.1 < y.1
def LLt (x y : Ser) : Prop := cmpLabs x.1 y.1 = -1
theorem SLt.irr (x : Int × Nat) : ¬ SLt x x := by simp [SLt]
theorem SLt.tr (x y z : Int × Nat) (h : SLt x y) (g : SLt y z) : SLt x z := by unfold SLt at *; omega
theorem LLt.irr (x : Ser) : ¬ LLt x x := by simp [LLt, cmpLabs_self]
theorem LLt.tr (x y z : Ser) (h : LLt x y) (g : LLt y z) : LLt x z := cmpLabs_trans h g
theorem samplesOk_iff (l : List (Int × Nat)) : SamplesOk l ↔ l ≠ [] ∧ l.Pairwise SLt := by
  refine and_congr Iff.rfl ⟨fun h => pairwise_get SLt.tr l fun i x y hx hy => h i x y (List.getElem?_eq_some_iff.1 hy).1 hx hy, fun h i x y _ hx hy => get_pairwise h hx hy⟩
theorem batchOk_iff (bs : List Ser) : BatchOk bs ↔ (∀ s ∈ bs, LabelsOk s.1 ∧ SamplesOk s.2) ∧ bs.Pairwise LLt := by
  refine and_congr ⟨fun h s hs => ?_, fun h i x _ hx => h x (List.mem_of_getElem? hx)⟩ ⟨fun h => pairwise_get LLt.tr bs fun i x y hx hy => cmpLabs_lt (h i x y (List.getElem?_eq_some_iff.1 hy).1 hx hy), fun h i x y _ hx hy => ?_⟩
  · obtain ⟨i, hi, e⟩ := List.mem_iff_getElem.1 hs
    exact h i s hi (by rw [List.getElem?_eq_getElem hi, e])
  · have : cmpLabs x.1 y.1 = -1 := get_pairwise h hx hy
    omega

/-- A sample of these labels is in the batch. -/
def Holds (bs : List Ser) (l : List Lab) (t : Int) (v : Nat) : Prop := ∃ s ∈ bs, s.1 = l ∧ (t, v) ∈ s.2
theorem pair_unique {l : List (Int × Nat)} (h : l.Pairwise SLt) {t : Int} {v u : Nat} (h1 : (t, v) ∈ l) (h2 : (t, u) ∈ l) : v = u := by
  induction l with
  | nil => cases h1
  | cons a r ih =>
    obtain ⟨ha, hr⟩ := List.pairwise_cons.1 h
    rcases List.mem_cons.1 h1 with e1 | e1 <;> rcases List.mem_cons.1 h2 with e2 | e2
    · rw [← e1] at e2; exact (Prod.mk.inj e2).2.symm
    · have := ha _ e2; rw [← e1] at this; simp [SLt] at this
    · have := ha _ e1; rw [← e2] at this; simp [SLt] at this
    · exact ih hr e1 e2
theorem ser_unique {bs : List Ser} (h : bs.Pairwise LLt) {s r : Ser} (h1 : s ∈ bs) (h2 : r ∈ bs) (e : s.1 = r.1) : s = r := by
  induction bs with
  | nil => cases h1
  | cons a q ih =>
    obtain ⟨ha, hr⟩ := List.pairwise_cons.1 h
    rcases List.mem_cons.1 h1 with e1 | e1 <;> rcases List.mem_cons.1 h2 with e2 | e2
    · rw [e1, e2]
    · have := ha _ e2; rw [← e1] at this; simp [LLt, e, cmpLabs_self] at this
    · have := ha _ e1; rw [← e2] at this; simp [LLt, e, cmpLabs_self] at this
    · exact ih hr e1 e2
theorem Holds.unique {bs : List Ser} (h : BatchOk bs) {l : List Lab} {t : Int} {v u : Nat} (h1 : Holds bs l t v) (h2 : Holds bs l t u) : v = u := by
  rw [batchOk_iff] at h
  obtain ⟨s, hs, e1, m1⟩ := h1
  obtain ⟨r, hr, e2, m2⟩ := h2
  have := ser_unique h.2 hs hr (e1.trans e2.symm)
  subst this
  exact pair_unique ((samplesOk_iff _).1 (h.1 s hs).2).2 m1 m2
theorem holds_sub {a b : List Ser} (ha : BatchOk a) (hb : BatchOk b) (h : ∀ l t v, Holds a l t v ↔ Holds b l t v) : ∀ s ∈ a, s ∈ b := fun s hs => by
  rw [batchOk_iff] at ha hb
  have hso := (samplesOk_iff _).1 (ha.1 s hs).2
  obtain ⟨x, hx⟩ : ∃ x, x ∈ s.2 := List.exists_mem_of_ne_nil _ hso.1
  obtain ⟨r, hr, e, _⟩ := (h s.1 x.1 x.2).1 ⟨s, hs, rfl, hx⟩
  have hro := (samplesOk_iff _).1 (hb.1 r hr).2
  have e2 : s.2 = r.2 := by
    refine rising_ext SLt.irr SLt.tr _ _ hso.2 hro.2 fun y => ⟨fun hy => ?_, fun hy => ?_⟩
    · obtain ⟨q, hq, e3, m⟩ := (h s.1 y.1 y.2).1 ⟨s, hs, rfl, hy⟩
      rw [ser_unique hb.2 hr hq (e.trans e3.symm)]; exact m
    · obtain ⟨q, hq, e3, m⟩ := (h s.1 y.1 y.2).2 ⟨r, hr, e, hy⟩
      rw [ser_unique ha.2 hs hq e3.symm]; exact m
  have : s = r := Prod.ext e.symm e2
  rw [this]; exact hr
/-- A batch is told by what it holds. -/
theorem batch_ext {a b : List Ser} (ha : BatchOk a) (hb : BatchOk b) (h : ∀ l t v, Holds a l t v ↔ Holds b l t v) : a = b := by
  have h1 := (batchOk_iff a).1 ha
  have h2 := (batchOk_iff b).1 hb
  exact rising_ext LLt.irr LLt.tr a b h1.2 h2.2 fun s => ⟨holds_sub ha hb h s, holds_sub hb ha (fun l t v => (h l t v).symm) s⟩

/-- The join of several batches. -/
structure IsJoin (bss : List (List Ser)) (j : List Ser) : Prop where
  ok : BatchOk j
  holds : ∀ l t v, Holds j l t v ↔ (∃ bs ∈ bss, Holds bs l t v) ∧ ∀ bs ∈ bss, ∀ u, Holds bs l t u → u ≤ v
theorem IsJoin.unique {bss : List (List Ser)} {j k : List Ser} (h : IsJoin bss j) (g : IsJoin bss k) : j = k :=
  batch_ext h.ok g.ok fun l t v => (h.holds l t v).trans (g.holds l t v).symm
theorem IsJoin.perm {bss css : List (List Ser)} {j : List Ser} (h : IsJoin bss j) (hp : ∀ x, x ∈ bss ↔ x ∈ css) : IsJoin css j :=
  ⟨h.ok, fun l t v => (h.holds l t v).trans (by simp only [hp])⟩
/-- What is held of labels at a time by several batches has a greatest. -/
theorem holds_max {bss : List (List Ser)} (hok : ∀ bs ∈ bss, BatchOk bs) (l : List Lab) (t : Int) : (∃ bs ∈ bss, ∃ u, Holds bs l t u) → ∃ v, (∃ bs ∈ bss, Holds bs l t v) ∧ ∀ bs ∈ bss, ∀ u, Holds bs l t u → u ≤ v := by
  induction bss with
  | nil => rintro ⟨bs, h, _⟩; cases h
  | cons a r ih =>
    intro h
    have ih := ih fun bs hb => hok bs (List.mem_cons_of_mem _ hb)
    have ha := hok a (List.mem_cons_self ..)
    by_cases h1 : ∃ bs ∈ r, ∃ u, Holds bs l t u
    · obtain ⟨v, ⟨bs, hb, hv⟩, hmax⟩ := ih h1
      by_cases h2 : ∃ u, Holds a l t u ∧ v ≤ u
      · obtain ⟨u, hu, hle⟩ := h2
        refine ⟨u, ⟨a, List.mem_cons_self .., hu⟩, fun cs hc x hx => ?_⟩
        rcases List.mem_cons.1 hc with rfl | hc
        · exact Nat.le_of_eq (Holds.unique ha hx hu)
        · exact Nat.le_trans (hmax cs hc x hx) hle
      · refine ⟨v, ⟨bs, List.mem_cons_of_mem _ hb, hv⟩, fun cs hc x hx => ?_⟩
        rcases List.mem_cons.1 hc with rfl | hc
        · by_cases e : x ≤ v
          · exact e
          · exact absurd ⟨x, hx, by omega⟩ h2
        · exact hmax cs hc x hx
    · obtain ⟨bs, hb, u, hu⟩ := h
      rcases List.mem_cons.1 hb with rfl | hb
      · refine ⟨u, ⟨bs, List.mem_cons_self .., hu⟩, fun cs hc x hx => ?_⟩
        rcases List.mem_cons.1 hc with rfl | hc
        · exact Nat.le_of_eq (Holds.unique ha hx hu)
        · exact absurd ⟨cs, hc, x, hx⟩ h1
      · exact absurd ⟨bs, hb, u, hu⟩ h1
/-- Joins of joins are joins. -/
theorem IsJoin.group {ass bss : List (List Ser)} {j k : List Ser} (h : IsJoin ass j) (g : IsJoin (j :: bss) k) (ho : ∀ bs ∈ ass, BatchOk bs) : IsJoin (ass ++ bss) k := by
  refine ⟨g.ok, fun l t v => (g.holds l t v).trans ⟨?_, ?_⟩⟩
  · rintro ⟨⟨bs, hb, hv⟩, hmax⟩
    have up : ∀ aa ∈ ass, ∀ u, Holds aa l t u → u ≤ v := fun aa ha u hu => by
      obtain ⟨m, hm, hmm⟩ := holds_max ho l t ⟨aa, ha, u, hu⟩
      exact Nat.le_trans (hmm aa ha u hu) (hmax j (List.mem_cons_self ..) m ((h.holds l t m).2 ⟨hm, hmm⟩))
    refine ⟨?_, fun cs hc u hu => ?_⟩
    · rcases List.mem_cons.1 hb with rfl | hb
      · obtain ⟨⟨aa, ha, hx⟩, _⟩ := (h.holds l t v).1 hv
        exact ⟨aa, List.mem_append_left _ ha, hx⟩
      · exact ⟨bs, List.mem_append_right _ hb, hv⟩
    · rcases List.mem_append.1 hc with hc | hc
      · exact up cs hc u hu
      · exact hmax cs (List.mem_cons_of_mem _ hc) u hu
  · rintro ⟨⟨bs, hb, hv⟩, hmax⟩
    refine ⟨?_, fun cs hc u hu => ?_⟩
    · rcases List.mem_append.1 hb with hb | hb
      · exact ⟨j, List.mem_cons_self .., (h.holds l t v).2 ⟨⟨bs, hb, hv⟩, fun aa ha u hu => hmax aa (List.mem_append_left _ ha) u hu⟩⟩
      · exact ⟨bs, List.mem_cons_of_mem _ hb, hv⟩
    · rcases List.mem_cons.1 hc with rfl | hc
      · obtain ⟨⟨aa, ha, hx⟩, _⟩ := (h.holds l t u).1 hu
        exact hmax aa (List.mem_append_left _ ha) u hx
      · exact hmax cs (List.mem_append_right _ hc) u hu
theorem IsJoin.one {b : List Ser} (h : BatchOk b) : IsJoin [b] b :=
  ⟨h, fun l t v => ⟨fun hv => ⟨⟨b, by simp, hv⟩, fun bs hb u hu => by simp at hb; subst hb; exact Nat.le_of_eq (Holds.unique h hu hv)⟩, fun ⟨⟨bs, hb, hv⟩, _⟩ => by simp at hb; subst hb; exact hv⟩⟩
theorem IsJoin.none : IsJoin [] [] :=
  ⟨by rw [batchOk_iff]; exact ⟨fun s h => (by cases h), .nil⟩, fun l t v => ⟨fun ⟨s, h, _⟩ => (by cases h), fun ⟨⟨bs, h, _⟩, _⟩ => (by cases h)⟩⟩
end Go.Proofs.YtamcclcbmenjdaaGreatDoor

/- The reference's Same, of lists that read alike. -/
namespace Go.Proofs.YtamcclcbmenjdaaGreatDoor
open Go.RowKit Go.Lib

set_option maxRecDepth 100000 in
set_option maxHeartbeats 1000000 in
theorem refSame_any (v1 v2 : Value) (bs : List Ser) (w : World) (h1 : BatchAt w w.heap.size v1 bs) (h2 : BatchAt w w.heap.size v2 bs) (hsm : Small bs) :
    Calls Tryz.prog 36 #[v1, v2] w fun e w' => e = .returned (.bool true) ∧ Below w.heap.size w w' := by
  obtain ⟨a1, c1, rfl, -⟩ := id h1
  obtain ⟨a2, c2, rfl, -⟩ := id h2
  have H1 := hide h1
  have H2 := hide h2
  have HSm := hide hsm
  have hll := hsm.series
  clear h1 h2 hsm
  go_enter Tryz.func36, Tryz.ntmps36
  go_wp2
  go_loopw [5, 6, 7] (fun i _ _ wr => ∃ m : Nat, m ≤ bs.length ∧ i = .int .i64 m ∧ Hid (Below w.heap.size w wr)) (fun i _ _ _ => bs.length - (intOf i).toNat)
  case atStart => exact ⟨0, Nat.zero_le _, rfl, Below.refl _ _⟩
  case round =>
    obtain ⟨m, hm, rfl, HW⟩ := hrel
    by_cases hlt : m < bs.length
    · obtain ⟨⟨ll, sl⟩, hx⟩ : ∃ x, bs[m]? = some x := ⟨_, List.getElem?_eq_getElem hlt⟩
      have hsw := HW.out.size
      obtain ⟨b1, o1, la1, lc1, sa1, sc1, rfl, hb1, p1, p2, L1, S1⟩ := H1.out.get hx
      obtain ⟨b2, o2, la2, lc2, sa2, sc2, rfl, hb2, q1, q2, L2, S2⟩ := H2.out.get hx
      have hl1 := HSm.out.labels _ (List.mem_of_getElem? hx)
      have hs1 := HSm.out.samples _ (List.mem_of_getElem? hx)
      simp only at p1 p2 q1 q2 L1 L2 S1 S2 hl1 hs1
      have m1 := (HW.out.cell (p := ⟨b1, o1 + m * 2, none⟩) hb1).trans p1
      have m2 := (HW.out.cell (p := ⟨b2, o2 + m * 2, none⟩) hb2).trans q1
      have C : Hid (∀ W2, Below wr.heap.size wr W2 → Calls Tryz.prog 74 #[.slice la1 ll.length lc1, .slice la2 ll.length lc2] W2 fun e w' => e = .returned (.int .i64 0) ∧ Below wr.heap.size wr w') := fun W2 h2 => by
        have h5 := HW.out.trans (h2.mono hsw)
        refine (refOrder_any w.heap.size _ _ ll ll W2 (L1.below h5 (Nat.le_refl _)) (L2.below h5 (Nat.le_refl _)) h5.size hl1).mono fun e w' h => ⟨?_, h2.trans (h.2.mono h2.size)⟩
        rw [h.1, cmpLabs_self]
      have HS1 := hide S1
      have HS2 := hide S2
      have hw1 : b1 < wr.heap.size := by omega
      have hw2 : b2 < wr.heap.size := by omega
      clear L1 L2 S1 S2 hx
      go_wp2
      as_aux_lemma =>
        go_region_held3 (fun w' => w'.cell? ⟨b1, o1 + m * 2, none⟩ = some (.slice la1 ll.length lc1) ∧ w'.cell? ⟨b2, o2 + m * 2, none⟩ = some (.slice la2 ll.length lc2)) (go_keep) (first | (go_at_call 74; refine (C.out _ (by first | exact (Below.refl _ _).drew | exact Below.refl _ _)).mono ?_; rintro e w6 ⟨rfl, hb6⟩; have x1 := (hb6.cell (p := ⟨b1, o1 + m * 2, none⟩) hw1).trans m1; have x2 := (hb6.cell (p := ⟨b2, o2 + m * 2, none⟩) hw2).trans m2) | fail)
        all_goals
          have HW6 : Hid (Below w.heap.size w w6) := HW.out.trans (hb6.mono hsw)
          have y2 := (HW6.out.cell (p := ⟨b1, o1 + m * 2 + 1, none⟩) hb1).trans p2
          have z2 := (HW6.out.cell (p := ⟨b2, o2 + m * 2 + 1, none⟩) hb2).trans q2
          have HT1 := hide (HS1.out.below HW6.out (Nat.le_refl _))
          have HT2 := hide (HS2.out.below HW6.out (Nat.le_refl _))
          clear hb6 x1 x2 C HW m1 m2 HS1 HS2
          go_wp2
          go_quiet (fail)
          go_wp2
          go_loopw [7] (fun i wr => ∃ j q : Nat, j ≤ sl.length ∧ i = .int .i64 j ∧ wr = w6.drewN q) (fun i _ => sl.length - (intOf i).toNat)
          case atStart => exact ⟨0, _, Nat.zero_le _, rfl, by first | rfl | exact drewN_two _ _ _⟩
          case round =>
            obtain ⟨j, q, hj, rfl, rfl⟩ := hrel
            by_cases hjl : j < sl.length
            · obtain ⟨⟨ty, by1⟩, hy⟩ : ∃ x, sl[j]? = some x := ⟨_, List.getElem?_eq_getElem hjl⟩
              obtain ⟨e1, f1, rfl, u1, u2⟩ := samGet HT1.out hy
              obtain ⟨e2, f2, rfl, v1, v2⟩ := samGet HT2.out hy
              simp only at u1 u2 v1 v2
              clear hy
              go_wp2
              go_quiet (fail)
              go_wp2
              go_roundw
              case rel => exact ⟨j + 1, _, by omega, by go_num, by first | rfl | exact drewN_two _ _ _⟩
              case measure => simp [intOf]; omega
            · have HW7 : Hid (Below w.heap.size w (w6.drewN q)) := HW6.out.trans ⟨rfl, rfl, rfl, Nat.le_refl _, fun _ _ => rfl⟩
              go_wp2
              go_roundw
              case rel => exact ⟨m + 1, by omega, by go_num, HW7.out⟩
              case measure => simp [intOf]; omega
    · go_wp2
      go_ret
      exact ⟨rfl, HW.out⟩
end Go.Proofs.YtamcclcbmenjdaaGreatDoor

/- choirlaw.reads: the walk. -/
namespace Go.Proofs.YtamcclcbmenjdaaGreatDoor
open Go.RowKit Go.Lib

/-- What is read of a text: nothing, if it is no frame. -/
def GotOr (S : ByteArray) (J : List Ser) (n : Nat) : Prop := (IsFrame S.data.toList ∧ J = got S.data.toList ∧ n = 0) ∨ (¬ IsFrame S.data.toList ∧ J = [] ∧ n = 3)
theorem GotOr.unique {S : ByteArray} {J J' : List Ser} {n n' : Nat} (h : GotOr S J n) (g : GotOr S J' n') : J' = J ∧ n' = n := by
  rcases h with ⟨h, h1, h2⟩ | ⟨h, h1, h2⟩
  · rcases g with ⟨g, g1, g2⟩ | ⟨g, g1, g2⟩
    · exact ⟨g1.trans h1.symm, g2.trans h2.symm⟩
    · exact absurd h g
  · rcases g with ⟨g, g1, g2⟩ | ⟨g, g1, g2⟩
    · exact absurd g h
    · exact ⟨g1.trans h1.symm, g2.trans h2.symm⟩
theorem GotOr.limits {S : ByteArray} {J : List Ser} {n : Nat} (h : GotOr S J n) : LimitsOk J := by
  rcases h with ⟨h, rfl, _⟩ | ⟨_, rfl, _⟩
  · exact h.limits
  · exact ⟨fun i x hi hx => by simp at hx, by simp⟩
theorem GotOr.range {S : ByteArray} {J : List Ser} {n : Nat} (h : GotOr S J n) : InRange J := by
  rcases h with ⟨_, rfl, _⟩ | ⟨_, rfl, _⟩
  · exact (payR_small (BA (inner S.data.toList))).2
  · intro s hs; cases hs
theorem fresh_none (w : World) (base : Nat) : FreshD w base (.slice none 0 0) [] := ⟨[], World.ownsRow_nil _ _ _ _, ⟨rfl, fun i p x h _ => by simp at h⟩, List.Pairwise.nil⟩
theorem fresh_below {w w' : World} {base : Nat} {v : Value} {bs : List Ser} (h : FreshD w base v bs) (hb : Below w.heap.size w w') : FreshD w' base v bs := h.kept fun k _ hk => hb.block k hk
theorem decode_one (s : ByteArray) (w : World) (hs : s.size ≤ 140737488355328) (hT : Tabs w) :
    Calls Tryz.prog 34 #[.string s] w fun e w' => ∃ J n a c, GotOr s J n ∧ e = .returned (.tuple #[.slice a J.length c, .int .i64 n]) ∧ FreshD w' w.heap.size (.slice a J.length c) J ∧ Below w.heap.size w w' := by
  refine (decode_any s w hs hT).mono ?_
  rintro e w' ⟨⟨hf, v, rfl, hF⟩ | ⟨hf, rfl⟩, hb⟩
  · obtain ⟨a, c, rfl⟩ := hF.shape
    exact ⟨_, 0, a, c, .inl ⟨hf, rfl, rfl⟩, rfl, hF, hb⟩
  · exact ⟨[], 3, none, 0, .inr ⟨hf, rfl, rfl⟩, rfl, fresh_none _ _, hb⟩
theorem read_one (s : ByteArray) (w : World) (hs : s.size ≤ 140737488355328) (h0 : 0 < w.heap.size) :
    Calls Tryz.prog 35 #[.string s] w fun e w' => ∃ J n a c, GotOr s J n ∧ e = .returned (.tuple #[.slice a J.length c, .int .i64 n]) ∧ BatchAt w' w'.heap.size (.slice a J.length c) J ∧ Below w.heap.size w w' := by
  refine (refRead_any w s hs h0).mono ?_
  rintro e w' ⟨⟨hf, a, n, c, rfl, hF⟩ | ⟨hf, rfl⟩, hb⟩
  · obtain ⟨a', c', e3, -⟩ := id hF
    cases e3
    exact ⟨_, 0, a, c, .inl ⟨hf, rfl, rfl⟩, rfl, hF, hb⟩
  · exact ⟨[], 3, none, 0, .inr ⟨hf, rfl, rfl⟩, rfl, ⟨none, 0, rfl, Nat.le_refl _, .inl rfl⟩, hb⟩
theorem small_limits {a : List Ser} (h : LimitsOk a) : Small a := by
  have h1 : ∀ s ∈ a, s.1.length ≤ 4 ∧ s.2.length ≤ 40 := fun s hs => by
    obtain ⟨i, hi, e⟩ := List.mem_iff_getElem.1 hs
    exact h.1 i s hi (by rw [List.getElem?_eq_getElem hi, e])
  exact ⟨by have := h.2; omega, fun s hs => by have := (h1 s hs).1; omega, fun s hs => by have := (h1 s hs).2; omega⟩
theorem limits_len {a : List Ser} (h : LimitsOk a) : a.length ≤ 1000000 ∧ ∀ s ∈ a, s.1.length ≤ 1000000 ∧ s.2.length ≤ 1000000 := by
  have h1 : ∀ s ∈ a, s.1.length ≤ 4 ∧ s.2.length ≤ 40 := fun s hs => by
    obtain ⟨i, hi, e⟩ := List.mem_iff_getElem.1 hs
    exact h.1 i s hi (by rw [List.getElem?_eq_getElem hi, e])
  exact ⟨by have := h.2; omega, fun s hs => by have := h1 s hs; omega⟩

set_option maxRecDepth 100000 in
set_option maxHeartbeats 1000000 in
theorem reads_any (w : World) (B kb : Nat) (K : Nat → Prop) (sv lv mv : Value) (S : ByteArray) (ns nl nm : Nat) (hBk : Book w kb K sv lv mv ns nl nm) (hm : ns % 4 = 0 ∧ nl % 4 = 0 ∧ nm % 4 = 0) (hn : ns ≤ 80000000 ∧ nl ≤ 80000000 ∧ nm ≤ 80000000) (hK : ∀ k, K k → B ≤ k) (hBw : B ≤ w.heap.size) (hB2 : 2 < B)
    (hS : S.size ≤ 140737488355328) (hT : Tabs w) :
    Calls Tryz.prog 9 #[.string S, .pointer (some ⟨kb, 0, none⟩)] w fun e w' => e = .returned (.bool true) ∧ Below B w w' ∧ ∃ K' sv' lv' mv' ns' nl' nm', Book w' kb K' sv' lv' mv' ns' nl' nm' ∧ (ns' % 4 = 0 ∧ nl' % 4 = 0 ∧ nm' % 4 = 0) ∧ (ns' ≤ ns + 4 ∧ nl' ≤ nl + 32 ∧ nm' ≤ nm + 32) ∧ (∀ k, K' k → K k ∨ w.heap.size ≤ k) := by
  have C := hide (decode_one S w hS hT)
  have HBk := hide hBk
  have HK := hide hK
  have HKl := hide hBk.lt
  clear hBk hK hT
  go_enter Tryz.func9, Tryz.ntmps9
  go_wp2_with fail
  refine C.out.mono ?_
  rintro e w1 ⟨J, cn, a1, c1, hJ, rfl, hF1, hb1⟩
  have HL := hide hJ.limits
  have HR := hide hJ.range
  have hg8 : J.length ≤ 8 := hJ.limits.2
  have HJ := hide hJ
  have hs1 := hb1.size
  have HB1 := hide hb1
  have HF1 := hide hF1
  have HA1 := hide (hF1.batchAt HR.out)
  have C2 := hide (read_one S w1 hS (by omega))
  clear hb1 hF1 C hJ
  go_wp2_with fail
  refine C2.out.mono ?_
  rintro e w2 ⟨J2, cn2, a2, c2, hJ2, rfl, hA2, hb2⟩
  obtain ⟨rfl, rfl⟩ := hJ2.unique HJ.out
  have hs2 := hb2.size
  have HB2 := hide (HB1.out.trans (hb2.mono hs1))
  have HF2 := hide (fresh_below HF1.out hb2)
  have C3 := hide (refSame_any _ _ J w2 (batch_on HA1.out hb2) hA2 (small_limits HL.out))
  clear hA2 hb2 C2 HB1 HF1 HA1 hJ2 HJ
  go_wp2_with fail
  refine C3.out.mono ?_
  rintro e w3 ⟨rfl, hb3⟩
  have hs3 := hb3.size
  have HB3 := hide (HB2.out.trans (hb3.mono (by omega)))
  have HF3 := hide (fresh_below HF2.out hb3)
  have HBk3 := hide (HBk.out.below HB3.out)
  obtain ⟨hm1, hm2, hm3⟩ := hm
  obtain ⟨hn1, hn2, hn3⟩ := hn
  have C4 := hide (keep_any w3 B w.heap.size kb K sv lv mv _ ns nl nm J HBk3.out ⟨hm1, hm2, hm3⟩ ⟨by omega, by omega, by omega⟩ HF3.out (by omega) hBw (fun k hk => ⟨HK.out k hk, HKl.out k hk⟩) (limits_len HL.out))
  clear hb3 C3 HB2 HF2 HF3 HBk3 HBk
  go_wp2_with fail
  refine C4.out.mono ?_
  rintro e w4 ⟨rfl, K4, sv4, lv4, mv4, h4⟩
  have hs4 := h4.size
  have HW4 : Hid (Below B w w4) := (HB3.out.mono hBw).trans h4.below
  have HSub := hide h4.sub
  have HBk4 := hide h4.book
  have C5 := hide (stays_any w4 kb K4 sv4 lv4 mv4 _ _ _ h4.book (by omega) (by omega) (by omega))
  clear h4 C4 HB3
  go_wp2_with fail
  refine C5.out.mono ?_
  rintro e w5 ⟨rfl, hb5⟩
  have HW5 : Hid (Below B w w5) := HW4.out.trans (hb5.mono (by omega))
  have HBk5 := hide (HBk4.out.below hb5)
  clear hb5 C5 HW4 HBk4
  go_wp2
  go_ret
  exact ⟨rfl, HW5.out, K4, sv4, lv4, mv4, _, _, _, HBk5.out, ⟨by omega, by omega, by omega⟩, ⟨by omega, by omega, by omega⟩, HSub.out⟩
end Go.Proofs.YtamcclcbmenjdaaGreatDoor

/- choirlaw.Reads: the walk. -/
namespace Go.Proofs.YtamcclcbmenjdaaGreatDoor
open Go.RowKit Go.Lib

theorem rbook_new (W : World) : Book (W.alloc (.cells #[.slice none 0 0, .slice none 0 0, .slice none 0 0, .slice none 0 0] 29)) W.heap.size (fun k => k = W.heap.size) (.slice none 0 0) (.slice none 0 0) (.slice none 0 0) 0 0 0 := by
  have hr : ∀ (T : Nat) (P : Nat → Value → Prop), RowM (W.alloc (.cells #[.slice none 0 0, .slice none 0 0, .slice none 0 0, .slice none 0 0] 29)) (fun k => k = W.heap.size) T P (.slice none 0 0) 0 := fun T P => ⟨[], World.ownsRow_nil _ _ _ _, (fun k e => by cases e), fun i u h => by simp at h⟩
  exact ⟨fun k hk => by subst hk; simp, rfl, heap_alloc_new W _, hr _ _, hr _ _, hr _ _⟩
/-- The law's own list. -/
theorem batch_lit (w : World) : BatchAt ((w.alloc (.cells #[.int .i64 1, .int .u64 2] 34)).alloc (.cells #[.slice none 0 0, .slice (some ⟨w.heap.size, 0, none⟩) 1 1] 38)) ((w.alloc (.cells #[.int .i64 1, .int .u64 2] 34)).alloc (.cells #[.slice none 0 0, .slice (some ⟨w.heap.size, 0, none⟩) 1 1] 38)).heap.size (.slice (some ⟨w.heap.size + 1, 0, none⟩) 1 1) [([], [(1, 2)])] := by
  have hs : ((w.alloc (.cells #[.int .i64 1, .int .u64 2] 34)).alloc (.cells #[.slice none 0 0, .slice (some ⟨w.heap.size, 0, none⟩) 1 1] 38)).heap.size = w.heap.size + 2 := by simp
  have h0 : Blk ((w.alloc (.cells #[.int .i64 1, .int .u64 2] 34)).alloc (.cells #[.slice none 0 0, .slice (some ⟨w.heap.size, 0, none⟩) 1 1] 38)) w.heap.size 34 [.int .i64 1, .int .u64 2] := Blk.alloc (Blk.new w _ _) _
  have h1 : Blk ((w.alloc (.cells #[.int .i64 1, .int .u64 2] 34)).alloc (.cells #[.slice none 0 0, .slice (some ⟨w.heap.size, 0, none⟩) 1 1] 38)) (w.heap.size + 1) 38 [.slice none 0 0, .slice (some ⟨w.heap.size, 0, none⟩) 1 1] := by
    have := Blk.new (w.alloc (.cells #[.int .i64 1, .int .u64 2] 34)) 38 [.slice none 0 0, .slice (some ⟨w.heap.size, 0, none⟩) 1 1]
    simpa using this
  rw [hs]
  generalize (w.alloc (.cells #[.int .i64 1, .int .u64 2] 34)).alloc (.cells #[.slice none 0 0, .slice (some ⟨w.heap.size, 0, none⟩) 1 1] 38) = W at *
  refine ⟨_, 1, rfl, Nat.le_refl _, .inr ⟨w.heap.size + 1, 0, rfl, by omega, fun i x hx => ?_⟩⟩
  match i, hx with
  | 0, hx =>
    simp at hx
    subst hx
    refine ⟨_, _, h1.cell (i := 0) rfl, h1.cell (i := 1) rfl, ⟨none, 0, rfl, Nat.le_refl _, .inl rfl⟩, ⟨_, 1, rfl, Nat.le_refl _, fun x hx => ?_, .inr ⟨w.heap.size, 0, rfl, by omega, fun i x hx => ?_⟩⟩⟩
    · rw [List.mem_singleton.1 hx]; decide
    · match i, hx with
      | 0, hx => simp at hx; subst hx; exact ⟨h0.cell (i := 0) rfl, h0.cell (i := 1) rfl⟩
      | i + 1, hx => simp at hx
  | i + 1, hx => simp at hx
theorem fits_lit : Fits [([], [(1, 2)])] := ⟨by simp, fun s hs => by rw [List.mem_singleton.1 hs]; simp, fun s hs => by rw [List.mem_singleton.1 hs]; simp, fun s hs => by rw [List.mem_singleton.1 hs]; simp⟩

set_option maxRecDepth 100000 in
set_option maxHeartbeats 1000000 in
theorem Reads_any (W : World) (v : Value) (fs : List ByteArray) (a0 : Option Addr) (cap : Nat) (hv : v = .slice a0 fs.length cap) (hc : ∀ i s, fs[i]? = some s → ∃ b o, a0 = some ⟨b, o, none⟩ ∧ b < W.heap.size ∧ W.cell? ⟨b, o + i, none⟩ = some (.string s)) (hs : ∀ s ∈ fs, s.size ≤ 1048576) (hn : fs.length ≤ 1048576) (hT : Tabs W) :
    Calls Tryz.prog 3 #[v] W fun e w' => e = .returned (.bool true) ∧ Below W.heap.size W w' := by
  subst hv
  have h3 := hT.lt
  have HC := hide hc
  have HS := hide hs
  have HT := hide hT
  have HB0 : Hid (Below W.heap.size W (W.alloc (.cells #[.slice none 0 0, .slice none 0 0, .slice none 0 0, .slice none 0 0] 29))) := (Below.refl _ _).alloc (Nat.le_refl _) _
  have HK0 := hide (rbook_new W)
  obtain ⟨n, hnl⟩ : ∃ n, n = fs.length := ⟨_, rfl⟩
  rw [← hnl] at hn ⊢
  have HNl := hide hnl
  clear hc hs hT hnl
  go_enter Tryz.func3, Tryz.ntmps3
  go_wp2
  go_loopw [4, 5] (fun iv _ wr => ∃ (k : Nat) (K : Nat → Prop) (sv lv mv : Value) (ns nl nm : Nat), k ≤ n ∧ iv = .int .i64 k ∧ Hid (Book wr W.heap.size K sv lv mv ns nl nm) ∧ Hid (ns % 4 = 0 ∧ nl % 4 = 0 ∧ nm % 4 = 0) ∧ (ns ≤ 4 * k ∧ nl ≤ 32 * k ∧ nm ≤ 32 * k) ∧ Hid (∀ k, K k → W.heap.size ≤ k) ∧ Hid (Below W.heap.size W wr)) (fun iv _ _ => n - (intOf iv).toNat)
  case atStart => exact ⟨0, _, _, _, _, 0, 0, 0, Nat.zero_le _, rfl, HK0.out, ⟨rfl, rfl, rfl⟩, ⟨by omega, by omega, by omega⟩, (fun k hk => by omega), HB0.out⟩
  case round =>
    obtain ⟨k, K, sv, lv, mv, ns, nl, nm, hk, rfl, HBk, HM, ⟨b1, b2, b3⟩, HK, HB⟩ := hrel
    clear HB0 HK0
    have hws := HB.out.size
    by_cases hlt : k < n
    · obtain ⟨s, hx⟩ : ∃ s, fs[k]? = some s := ⟨_, List.getElem?_eq_getElem (by have := HNl.out; omega)⟩
      obtain ⟨b, o, rfl, hb, hcc⟩ := HC.out k s hx
      have c0 := (HB.out.cell (p := ⟨b, o + k, none⟩) hb).trans hcc
      have C := hide (reads_any wr W.heap.size W.heap.size K sv lv mv s ns nl nm HBk.out HM.out ⟨by omega, by omega, by omega⟩ HK.out hws h3 (by have := HS.out s (List.mem_of_getElem? hx); omega) (HT.out.below HB.out h3))
      have i1 : (k : Int) < (n : Int) := by omega
      clear hcc hx
      go_wp2_with fail
      refine C.out.mono ?_
      rintro e w2 ⟨rfl, hb2, K2, sv2, lv2, mv2, ns2, nl2, nm2, hbk2, hm2, ⟨d1, d2, d3⟩, hk2⟩
      have HB2 := hide (HB.out.trans hb2)
      have HK2 : Hid (∀ k, K2 k → W.heap.size ≤ k) := fun k hk => by
        rcases hk2 k hk with h | h
        · exact HK.out k h
        · omega
      have HBk2 := hide hbk2
      have HM2 := hide hm2
      clear hb2 hbk2 hm2 hk2 C HB HBk HK HM c0
      go_wp2
      go_roundw
      case rel => exact ⟨k + 1, K2, sv2, lv2, mv2, ns2, nl2, nm2, by omega, by go_num, HBk2.out, HM2.out, ⟨by omega, by omega, by omega⟩, HK2.out, HB2.out⟩
      case measure => simp [intOf]; omega
    · obtain rfl : k = n := by omega
      have C := hide (refFrame_any _ _ [([], [(1, 2)])] _ (batch_lit wr) (Nat.le_refl _) fits_lit)
      have HB1 : Hid (Below W.heap.size W ((wr.alloc (.cells #[.int .i64 1, .int .u64 2] 34)).alloc (.cells #[.slice none 0 0, .slice (some ⟨wr.heap.size, 0, none⟩) 1 1] 38))) := (HB.out.alloc hws _).alloc (by simp; omega) _
      have HBk1 : Hid (Book ((wr.alloc (.cells #[.int .i64 1, .int .u64 2] 34)).alloc (.cells #[.slice none 0 0, .slice (some ⟨wr.heap.size, 0, none⟩) 1 1] 38)) W.heap.size K sv lv mv ns nl nm) := HBk.out.below (((Below.refl wr.heap.size wr).alloc (Nat.le_refl _) _).alloc (by simp) _)
      have HFs : Hid ((BA (frameOf (payload [([], [(1, 2)])]))).size ≤ 60011) := by
        have h1 := (payload_bounds fits_lit).1
        show _ ≤ _
        rw [BA_size, frameOf_length]; omega
      have hs1 : W.heap.size ≤ ((wr.alloc (.cells #[.int .i64 1, .int .u64 2] 34)).alloc (.cells #[.slice none 0 0, .slice (some ⟨wr.heap.size, 0, none⟩) 1 1] 38)).heap.size := HB1.out.size
      clear HB HBk
      go_wp2_with fail
      refine C.out.mono ?_
      rintro e w1 ⟨rfl, hb1⟩
      have hs2 := hb1.size
      have HB2 := hide (HB1.out.trans (hb1.mono hs1))
      have HBk2 := hide (HBk1.out.below hb1)
      clear hb1 C HB1 HBk1
      generalize BA (frameOf (payload [([], [(1, 2)])])) = fr at *
      have hsw : W.heap.size ≤ w1.heap.size := HB2.out.size
      have C := hide (reads_any w1 W.heap.size W.heap.size K sv lv mv fr ns nl nm HBk2.out HM.out ⟨by omega, by omega, by omega⟩ HK.out hsw h3 (by have := HFs.out; omega) (HT.out.below HB2.out h3))
      clear HBk2
      go_wp2_with fail
      refine C.out.mono ?_
      rintro e w2 ⟨rfl, hb2, K2, sv2, lv2, mv2, ns2, nl2, nm2, hbk2, hm2, ⟨d1, d2, d3⟩, hk2⟩
      have HB3 := hide (HB2.out.trans hb2)
      have hsw2 : W.heap.size ≤ w2.heap.size := HB3.out.size
      have hK2 : ∀ k, K2 k → W.heap.size ≤ k := fun k hk => by
        rcases hk2 k hk with h | h
        · exact HK.out k h
        · omega
      have C := hide (reads_any w2 W.heap.size W.heap.size K2 sv2 lv2 mv2 fr ns2 nl2 nm2 hbk2 hm2 ⟨by omega, by omega, by omega⟩ hK2 hsw2 h3 (by have := HFs.out; omega) (HT.out.below HB3.out h3))
      clear hb2 hbk2 hm2 hk2 hK2 HB2 HK HM
      go_wp2_with fail
      refine C.out.mono ?_
      rintro e w3 ⟨rfl, hb3, _⟩
      have HB4 := hide (HB3.out.trans hb3)
      clear hb3 C HB3
      go_wp2
      go_ret
      exact ⟨rfl, HB4.out⟩
end Go.Proofs.YtamcclcbmenjdaaGreatDoor

/- 'choirlaw.Merges', for any list of texts of bulk at most 1048576: Merge answers the document's frame or error; what is handed in stays. The second form's statement and its card: its only condition is the row's own bound on the argument's bulk. -/
import Derived.Test.YtamcclcbmenjdaaGreatDoorMergesuptoG31
import Derived.Test.YtamcclcbmenjdaaGreatDoorMergesuptoG30
/- Rising lists brought together, pure: what is taken off a heap of rests. -/
namespace Go.Proofs.YtamcclcbmenjdaaGreatDoor
open Go.RowKit Go.Lib

/-- An order by a comparison that answers -1, 0 or 1. -/
structure Cmps {α : Type} (c : α → α → Int) : Prop where
  three : ∀ x y, c x y = -1 ∨ c x y = 0 ∨ c x y = 1
  neg : ∀ x y, c y x = - c x y
  tr : ∀ {x y z}, c x y = -1 → c y z = -1 → c x z = -1
  eqv : ∀ {x y z}, c x y = 0 → c y z = -1 → c x z = -1
theorem Cmps.self {α : Type} {c : α → α → Int} (h : Cmps c) (x : α) : c x x = 0 := by have := h.neg x x; omega
theorem Cmps.eqv2 {α : Type} {c : α → α → Int} (h : Cmps c) {x y z : α} (h1 : c x y = -1) (h2 : c y z = 0) : c x z = -1 := by
  have a1 := h.neg x y
  have a2 := h.neg y z
  have a3 := h.neg x z
  rcases h.three x z with e | e | e
  · exact e
  · have := h.eqv (x := z) (y := x) (z := y) (by omega) h1
    omega
  · have := h.tr (x := z) (y := x) (z := y) (by omega) h1
    omega
theorem Cmps.eqv0 {α : Type} {c : α → α → Int} (h : Cmps c) {x y z : α} (h1 : c x y = 0) (h2 : c y z = 0) : c x z = 0 := by
  have a1 := h.neg x y
  have a2 := h.neg y z
  have a3 := h.neg x z
  rcases h.three x z with e | e | e
  · have := h.eqv (x := y) (y := x) (z := z) (by omega) e
    omega
  · exact e
  · have := h.eqv (x := y) (y := z) (z := x) (by omega) (by omega)
    omega
theorem Cmps.le_tr {α : Type} {c : α → α → Int} (h : Cmps c) {x y z : α} (h1 : c x y ≤ 0) (h2 : c y z ≤ 0) : c x z ≤ 0 := by
  rcases h.three x y with e | e | e <;> rcases h.three y z with f | f | f <;> try omega
  · have := h.tr e f; omega
  · have := h.eqv2 e f; omega
  · have := h.eqv e f; omega
  · have := h.eqv0 e f; omega
theorem Cmps.tot {α : Type} {c : α → α → Int} (h : Cmps c) (x y : α) : c x y ≤ 0 ∨ c y x ≤ 0 := by
  have := h.neg x y; omega
theorem Cmps.lt_le {α : Type} {c : α → α → Int} (h : Cmps c) {x y z : α} (h1 : c x y = -1) (h2 : c y z ≤ 0) : c x z = -1 := by
  rcases h.three y z with f | f | f
  · exact h.tr h1 f
  · exact h.eqv2 h1 f
  · omega

def cmpT (x y : Int × Nat) : Int := if x.1 < y.1 then -1 else if y.1 < x.1 then 1 else 0
def cmpS (x y : Ser) : Int := cmpLabs x.1 y.1
theorem cmpT_ok : Cmps cmpT := by
  refine ⟨fun x y => ?_, fun x y => ?_, fun {x y z} h1 h2 => ?_, fun {x y z} h1 h2 => ?_⟩
  · unfold cmpT; split; · simp
    split <;> simp
  · unfold cmpT; split <;> split <;> (try split) <;> omega
  · unfold cmpT at *
    have a : x.1 < y.1 := by
      by_cases e : x.1 < y.1
      · exact e
      · rw [if_neg e] at h1; split at h1 <;> omega
    have b : y.1 < z.1 := by
      by_cases e : y.1 < z.1
      · exact e
      · rw [if_neg e] at h2; split at h2 <;> omega
    rw [if_pos (by omega)]
  · unfold cmpT at *
    have a : ¬ x.1 < y.1 := fun e => by rw [if_pos e] at h1; omega
    have a2 : ¬ y.1 < x.1 := fun e => by rw [if_neg a, if_pos e] at h1; omega
    have b : y.1 < z.1 := by
      by_cases e : y.1 < z.1
      · exact e
      · rw [if_neg e] at h2; split at h2 <;> omega
    rw [if_pos (by omega)]
theorem cmpT_lt (x y : Int × Nat) : cmpT x y = -1 ↔ x.1 < y.1 := by
  unfold cmpT; constructor
  · intro h
    by_cases e : x.1 < y.1
    · exact e
    · rw [if_neg e] at h; split at h <;> omega
  · intro h; rw [if_pos h]
theorem cmpT_eq (x y : Int × Nat) : cmpT x y = 0 ↔ x.1 = y.1 := by
  unfold cmpT; constructor
  · intro h
    by_cases e : x.1 < y.1
    · rw [if_pos e] at h; omega
    · rw [if_neg e] at h
      by_cases e2 : y.1 < x.1
      · rw [if_pos e2] at h; omega
      · omega
  · intro h; rw [if_neg (by omega), if_neg (by omega)]
theorem cmpS_ok : Cmps cmpS := by
  refine ⟨fun x y => cmpLabs_three _ _, fun x y => cmpLabs_neg _ _, fun h1 h2 => cmpLabs_trans h1 h2, fun {x y z} h1 h2 => ?_⟩
  have := (cmpLabs_zero _ _).1 h1
  unfold cmpS at *
  rw [this]; exact h2

/-- The rests of a heap: none is empty, each rises. -/
structure Rests {α : Type} (c : α → α → Int) (ls : List (List α)) : Prop where
  some : ∀ l ∈ ls, l ≠ []
  rise : ∀ l ∈ ls, l.Pairwise fun x y => c x y = -1
theorem Rests.perm {α : Type} {c : α → α → Int} {ls ms : List (List α)} (h : Rests c ls) (hp : ms.Perm ls) : Rests c ms :=
  ⟨fun l hl => h.some l (hp.mem_iff.1 hl), fun l hl => h.rise l (hp.mem_iff.1 hl)⟩
/-- What is left when the first of a list has been taken. -/
def restOf {α : Type} (t : List α) (ls : List (List α)) : List (List α) := if t = [] then ls else t :: ls
theorem restOf_flat {α : Type} (t : List α) (ls : List (List α)) : (restOf t ls).flatten = t ++ ls.flatten := by
  unfold restOf; split
  · rename_i h; subst h; rfl
  · rfl
theorem Rests.rest {α : Type} {c : α → α → Int} {x : α} {t : List α} {ls : List (List α)} (h : Rests c ((x :: t) :: ls)) : Rests c (restOf t ls) := by
  have h1 := h.rise _ (List.mem_cons_self ..)
  have h2 := (List.pairwise_cons.1 h1).2
  unfold restOf; split
  · exact ⟨fun l hl => h.some l (List.mem_cons_of_mem _ hl), fun l hl => h.rise l (List.mem_cons_of_mem _ hl)⟩
  · rename_i hne
    refine ⟨fun l hl => ?_, fun l hl => ?_⟩
    · rcases List.mem_cons.1 hl with rfl | hl
      · exact hne
      · exact h.some l (List.mem_cons_of_mem _ hl)
    · rcases List.mem_cons.1 hl with rfl | hl
      · exact h2
      · exact h.rise l (List.mem_cons_of_mem _ hl)
/-- The least first is the least of all. -/
theorem Rests.least {α : Type} {c : α → α → Int} (hc : Cmps c) {x : α} {ls : List (List α)} (h : Rests c ls) (hm : ∀ l ∈ ls, ∀ y, l.head? = .some y → c x y ≤ 0) : ∀ y ∈ ls.flatten, c x y ≤ 0 := fun y hy => by
  obtain ⟨l, hl, hyl⟩ := List.mem_flatten.1 hy
  cases l with
  | nil => cases hyl
  | cons a r =>
    have h1 := hm _ hl a rfl
    rcases List.mem_cons.1 hyl with rfl | hyr
    · exact h1
    · have := (List.pairwise_cons.1 (h.rise _ hl)).1 y hyr
      exact hc.le_tr h1 (by omega)

/-- Alike: all that is taken of the first kind, and what is left. -/
structure Alike {α : Type} (c : α → α → Int) (ls : List (List α)) (x : α) (aa : List α) (ms : List (List α)) : Prop where
  perm : ls.flatten.Perm (aa ++ ms.flatten)
  same : ∀ a ∈ aa, c x a = 0
  least : ∀ y ∈ ms.flatten, c x y ≤ 0
  rests : Rests c ms
theorem Alike.first {α : Type} {c : α → α → Int} (hc : Cmps c) {ls : List (List α)} {x : α} {t : List α} {ms ns : List (List α)} (hr : Rests c ls) (hp : ls.Perm ((x :: t) :: ms)) (hn : ns.Perm (restOf t ms)) (hm : ∀ l ∈ ls, ∀ y, l.head? = .some y → c x y ≤ 0) : Alike c ls x [x] ns := by
  have h1 := hr.perm hp.symm
  have hf : ls.flatten.Perm (x :: ns.flatten) := by
    refine hp.flatten.trans ?_
    show (x :: (t ++ ms.flatten)).Perm _
    refine List.Perm.cons _ ?_
    rw [← restOf_flat]
    exact hn.symm.flatten
  refine ⟨hf, fun a ha => by simp at ha; subst ha; exact hc.self _, fun y hy => ?_, h1.rest.perm hn⟩
  exact hr.least hc hm y (hf.mem_iff.2 (List.mem_cons_of_mem _ hy))
theorem Alike.next {α : Type} {c : α → α → Int} {ls : List (List α)} {x y : α} {aa t : List α} {ms ns os : List (List α)} (h : Alike c ls x aa ms) (hp : ms.Perm ((y :: t) :: ns)) (hn : os.Perm (restOf t ns)) (he : c x y = 0) : Alike c ls x (aa ++ [y]) os := by
  have hf : ms.flatten.Perm (y :: os.flatten) := by
    refine hp.flatten.trans ?_
    show (y :: (t ++ ns.flatten)).Perm _
    refine List.Perm.cons _ ?_
    rw [← restOf_flat]
    exact hn.symm.flatten
  refine ⟨?_, fun a ha => ?_, fun z hz => h.least z (hf.mem_iff.2 (List.mem_cons_of_mem _ hz)), (h.rests.perm hp.symm).rest.perm hn⟩
  · refine h.perm.trans ?_
    rw [List.append_assoc]
    exact List.Perm.append_left _ hf
  · rcases List.mem_append.1 ha with ha | ha
    · exact h.same a ha
    · simp at ha; subst ha; exact he
/-- All that is left is greater. -/
theorem Alike.ends {α : Type} {c : α → α → Int} (hc : Cmps c) {ls : List (List α)} {x : α} {aa : List α} {ms : List (List α)} (h : Alike c ls x aa ms) (hm : ms = [] ∨ ∃ y, c x y ≠ 0 ∧ y ∈ ms.flatten ∧ ∀ l ∈ ms, ∀ z, l.head? = .some z → c y z ≤ 0) : ∀ y ∈ ms.flatten, c x y = -1 := fun z hz => by
  rcases hm with rfl | ⟨y, hne, hy, hl⟩
  · simp at hz
  · have h1 := h.least y hy
    have h2 : c x y = -1 := by have := hc.three x y; omega
    exact hc.lt_le h2 (h.rests.least hc hl z hz)

/- Samples. -/
/-- j has of each time the greatest bits of d. -/
structure Tops (d j : List (Int × Nat)) : Prop where
  rise : j.Pairwise SLt
  mem : ∀ t v, (t, v) ∈ j ↔ (t, v) ∈ d ∧ ∀ u, (t, u) ∈ d → u ≤ v
theorem Tops.nil : Tops [] [] := ⟨.nil, fun t v => by simp⟩
theorem Tops.perm {d e j : List (Int × Nat)} (h : Tops d j) (hp : d.Perm e) : Tops e j := ⟨h.rise, fun t v => by rw [h.mem]; simp only [hp.mem_iff]⟩
theorem Tops.app {d j aa : List (Int × Nat)} {x m : Int × Nat} (h : Tops d j) (hs : ∀ a ∈ aa, cmpT x a = 0) (hm : m ∈ aa) (hmax : ∀ a ∈ aa, a.2 ≤ m.2) (hlt : ∀ a ∈ aa, ∀ y ∈ d, cmpT y a = -1) : Tops (d ++ aa) (j ++ [m]) := by
  have hx : ∀ a ∈ aa, a.1 = m.1 := fun a ha => by
    have h1 := (cmpT_eq _ _).1 (hs a ha)
    have h2 := (cmpT_eq _ _).1 (hs m hm)
    omega
  have hd : ∀ y ∈ d, y.1 < m.1 := fun y hy => (cmpT_lt _ _).1 (hlt m hm y hy)
  refine ⟨List.pairwise_append.2 ⟨h.rise, List.pairwise_singleton _ _, fun a ha b hb => ?_⟩, fun t v => ?_⟩
  · simp at hb; subst hb
    exact hd a ((h.mem a.1 a.2).1 ha).1
  · rw [List.mem_append, List.mem_append, h.mem]
    constructor
    · rintro (⟨h1, h2⟩ | h1)
      · refine ⟨.inl h1, fun u hu => ?_⟩
        rcases List.mem_append.1 hu with hu | hu
        · exact h2 u hu
        · have e1 := hx _ hu
          have e2 := hd _ h1
          simp only at e1 e2; omega
      · simp at h1; subst h1
        refine ⟨.inr hm, fun u hu => ?_⟩
        rcases List.mem_append.1 hu with hu | hu
        · have e2 := hd _ hu
          simp only at e2; omega
        · exact hmax _ hu
    · rintro ⟨h1 | h1, h2⟩
      · exact .inl ⟨h1, fun u hu => h2 u (List.mem_append_left _ hu)⟩
      · refine .inr ?_
        have e1 := hx _ h1
        simp only at e1
        have h3 := hmax _ h1
        have h4 := h2 m.2 (List.mem_append_right _ (by rw [e1]; exact hm))
        simp only at h3
        have : (t, v) = m := Prod.ext e1 (by simp only; omega)
        simp [this]
theorem max_of (t : Int) : ∀ (l : List (Int × Nat)), (∃ v, (t, v) ∈ l) → ∃ v, (t, v) ∈ l ∧ ∀ u, (t, u) ∈ l → u ≤ v
  | [] => by rintro ⟨v, hv⟩; cases hv
  | a :: r => by
    rintro ⟨v, hv⟩
    have ih := max_of t r
    by_cases hr : ∃ w, (t, w) ∈ r
    · obtain ⟨w, hw, hwm⟩ := ih hr
      by_cases ha : a.1 = t ∧ w ≤ a.2
      · refine ⟨a.2, by rw [← ha.1]; exact List.mem_cons_self .., fun u hu => ?_⟩
        rcases List.mem_cons.1 hu with e | hu
        · rw [← e]; exact Nat.le_refl _
        · exact Nat.le_trans (hwm u hu) ha.2
      · refine ⟨w, List.mem_cons_of_mem _ hw, fun u hu => ?_⟩
        rcases List.mem_cons.1 hu with e | hu
        · rw [← e] at ha; simp only [true_and] at ha; omega
        · exact hwm u hu
    · rcases List.mem_cons.1 hv with e | hv
      · refine ⟨v, by rw [e]; exact List.mem_cons_self .., fun u hu => ?_⟩
        rcases List.mem_cons.1 hu with e2 | hu
        · rw [← e] at e2; exact Nat.le_of_eq (Prod.mk.inj e2).2
        · exact absurd ⟨u, hu⟩ hr
      · exact absurd ⟨v, hv⟩ hr
theorem Tops.ne {d j : List (Int × Nat)} (h : Tops d j) (hd : d ≠ []) : j ≠ [] := by
  obtain ⟨x, hx⟩ := List.exists_mem_of_ne_nil _ hd
  obtain ⟨v, hv, hm⟩ := max_of x.1 d ⟨x.2, hx⟩
  intro e
  have := (h.mem x.1 v).2 ⟨hv, hm⟩
  rw [e] at this; cases this

/- Series. -/
/-- Series of the same labels aa one. -/
structure OneOf (aa : List Ser) (l : List Lab) (s : Ser) : Prop where
  labels : s.1 = l
  tops : Tops (aa.map (·.2)).flatten s.2
/-- j has of each labels of d one series, with of each time the greatest bits. -/
structure STops (d j : List Ser) : Prop where
  rise : j.Pairwise LLt
  back : ∀ s ∈ j, ∃ x ∈ d, x.1 = s.1
  forth : ∀ x ∈ d, ∃ s ∈ j, s.1 = x.1
  tops : ∀ s ∈ j, Tops ((d.filter fun x => decide (x.1 = s.1)).map (·.2)).flatten s.2
theorem STops.nil : STops [] [] := ⟨.nil, fun _ h => (by cases h), fun _ h => (by cases h), fun _ h => (by cases h)⟩
theorem STops.app {d j aa : List Ser} {x s : Ser} (h : STops d j) (hs : ∀ a ∈ aa, cmpS x a = 0) (hne : aa ≠ []) (h1 : OneOf aa x.1 s) (hlt : ∀ a ∈ aa, ∀ y ∈ d, cmpS y a = -1) : STops (d ++ aa) (j ++ [s]) := by
  have hx : ∀ a ∈ aa, a.1 = x.1 := fun a ha => ((cmpLabs_zero _ _).1 (hs a ha)).symm
  obtain ⟨a0, ha0⟩ := List.exists_mem_of_ne_nil _ hne
  have hd : ∀ y ∈ d, cmpLabs y.1 x.1 = -1 := fun y hy => by
    have := hlt a0 ha0 y hy
    unfold cmpS at this
    rw [hx a0 ha0] at this; exact this
  have hdn : ∀ y ∈ d, y.1 ≠ x.1 := fun y hy e => by
    have := hd y hy
    rw [e, cmpLabs_self] at this; omega
  refine ⟨List.pairwise_append.2 ⟨h.rise, List.pairwise_singleton _ _, fun a ha b hb => ?_⟩, fun r hr => ?_, fun y hy => ?_, fun r hr => ?_⟩
  · simp at hb; subst hb
    obtain ⟨y, hy, e⟩ := h.back a ha
    have := hd y hy
    show cmpLabs a.1 b.1 = -1
    rw [← e, h1.labels]; exact this
  · rcases List.mem_append.1 hr with hr | hr
    · obtain ⟨y, hy, e⟩ := h.back r hr
      exact ⟨y, List.mem_append_left _ hy, e⟩
    · simp at hr; subst hr
      exact ⟨a0, List.mem_append_right _ ha0, by rw [hx a0 ha0, h1.labels]⟩
  · rcases List.mem_append.1 hy with hy | hy
    · obtain ⟨r, hr, e⟩ := h.forth y hy
      exact ⟨r, List.mem_append_left _ hr, e⟩
    · exact ⟨s, List.mem_append_right _ (by simp), by rw [hx y hy, h1.labels]⟩
  · rcases List.mem_append.1 hr with hr | hr
    · obtain ⟨y, hy, e⟩ := h.back r hr
      have hn : aa.filter (fun z => decide (z.1 = r.1)) = [] := List.filter_eq_nil_iff.2 fun z hz => by
        simp only [decide_eq_true_eq]
        intro e2
        exact hdn y hy (by rw [e, ← e2, hx z hz])
      rw [List.filter_append, hn, List.append_nil]
      exact h.tops r hr
    · simp at hr; subst hr
      have hn : d.filter (fun z => decide (z.1 = r.1)) = [] := List.filter_eq_nil_iff.2 fun z hz => by
        simp only [decide_eq_true_eq]
        rw [h1.labels]; exact hdn z hz
      have hm : aa.filter (fun z => decide (z.1 = r.1)) = aa := List.filter_eq_self.2 fun z hz => by
        simp only [decide_eq_true_eq]
        rw [h1.labels]; exact hx z hz
      rw [List.filter_append, hn, hm, List.nil_append]
      exact h1.tops
theorem STops.perm {d e j : List Ser} (h : STops d j) (hp : d.Perm e) : STops e j :=
  ⟨h.rise, fun s hs => by obtain ⟨x, hx, e⟩ := h.back s hs; exact ⟨x, hp.mem_iff.1 hx, e⟩, fun x hx => h.forth x (hp.mem_iff.2 hx), fun s hs => (h.tops s hs).perm ((hp.filter _).map _).flatten⟩
theorem LLt_cmp {bs : List Ser} (h : bs.Pairwise LLt) : bs.Pairwise fun x y => cmpS x y = -1 := h
theorem SLt_cmp {l : List (Int × Nat)} (h : l.Pairwise SLt) : l.Pairwise fun x y => cmpT x y = -1 := h.imp fun {x y} h => (cmpT_lt x y).2 h
/-- Batches whose series have been brought together so are joined. -/
theorem STops.join {bss : List (List Ser)} {j : List Ser} (h : STops bss.flatten j) (hok : ∀ bs ∈ bss, BatchOk bs) : IsJoin bss j := by
  have hmem : ∀ x ∈ bss.flatten, LabelsOk x.1 ∧ SamplesOk x.2 := fun x hx => by
    obtain ⟨bs, hb, hxb⟩ := List.mem_flatten.1 hx
    exact ((batchOk_iff bs).1 (hok bs hb)).1 x hxb
  have hin : ∀ s ∈ j, ∀ t v, (t, v) ∈ ((bss.flatten.filter fun x => decide (x.1 = s.1)).map (·.2)).flatten ↔ ∃ bs ∈ bss, Holds bs s.1 t v := fun s hs t v => by
    simp only [List.mem_flatten, List.mem_map, List.mem_filter, decide_eq_true_eq]
    constructor
    · rintro ⟨l, ⟨x, ⟨⟨bs, hb, hx⟩, e⟩, rfl⟩, hv⟩
      exact ⟨bs, hb, x, hx, e, hv⟩
    · rintro ⟨bs, hb, x, hx, e, hv⟩
      exact ⟨x.2, ⟨x, ⟨⟨bs, hb, hx⟩, e⟩, rfl⟩, hv⟩
  refine ⟨(batchOk_iff j).2 ⟨fun s hs => ?_, h.rise⟩, fun l t v => ?_⟩
  · obtain ⟨x, hx, e⟩ := h.back s hs
    refine ⟨by rw [← e]; exact (hmem x hx).1, (samplesOk_iff _).2 ⟨(h.tops s hs).ne ?_, (h.tops s hs).rise⟩⟩
    obtain ⟨y, hy⟩ := List.exists_mem_of_ne_nil _ ((samplesOk_iff _).1 (hmem x hx).2).1
    intro e2
    obtain ⟨bs, hb, hxb⟩ := List.mem_flatten.1 hx
    have := (hin s hs y.1 y.2).2 ⟨bs, hb, x, hxb, e, hy⟩
    rw [e2] at this; cases this
  · constructor
    · rintro ⟨s, hs, rfl, hv⟩
      obtain ⟨h1, h2⟩ := ((h.tops s hs).mem t v).1 hv
      exact ⟨(hin s hs t v).1 h1, fun bs hb u hu => h2 u ((hin s hs t u).2 ⟨bs, hb, hu⟩)⟩
    · rintro ⟨⟨bs, hb, x, hx, rfl, hv⟩, hmax⟩
      obtain ⟨s, hs, e⟩ := h.forth x (List.mem_flatten.2 ⟨bs, hb, hx⟩)
      refine ⟨s, hs, e, ((h.tops s hs).mem t v).2 ⟨(hin s hs t v).2 ⟨bs, hb, x, hx, e.symm, hv⟩, fun u hu => ?_⟩⟩
      obtain ⟨cs, hc, hu⟩ := (hin s hs t u).1 hu
      exact hmax cs hc u (by rw [← e]; exact hu)
end Go.Proofs.YtamcclcbmenjdaaGreatDoor

/- A sample as it is compared: by its time. -/
namespace Go.Proofs.YtamcclcbmenjdaaGreatDoor
open Go.RowKit Go.Lib

def ElS (_ : World) (x : Int × Nat) (c0 c1 : Value) : Prop := c0 = .int .i64 x.1 ∧ c1 = .int .u64 x.2
def SmS (_ : Int × Nat) : Prop := True
theorem SamplesAt.head {w : World} {B : Nat} {v : Value} {x : Int × Nat} {r : List (Int × Nat)} (h : SamplesAt w B v (x :: r)) : ∃ b o k a0 a1, v = .slice (some ⟨b, o, none⟩) (r.length + 1) k ∧ b < B ∧ w.cell? ⟨b, o, none⟩ = some a0 ∧ w.cell? ⟨b, o + 1, none⟩ = some a1 ∧ ElS w x a0 a1 := by
  obtain ⟨a, cap, rfl, _, _, h2⟩ := h
  rcases h2 with h2 | ⟨b, o, rfl, hb, hc⟩
  · cases h2
  · have := hc 0 x rfl
    simp only [Nat.zero_mul, Nat.add_zero] at this
    exact ⟨b, o, cap, _, _, rfl, hb, this.1, this.2, rfl, rfl⟩

/-- cmp.Compare of two numbers. -/
def cmpI (x y : Int) : Int := if x < y then -1 else if y < x then 1 else 0
set_option maxHeartbeats 400000 in
theorem isNaN_any (x : Int) (w : World) : Calls Tryz.prog 208 #[.int .i64 x] w fun e w' => e = .returned (.bool false) ∧ w' = w := by
  go_enter Tryz.func208, Tryz.ntmps208
  go_wp2
  go_ret
  exact ⟨by simp, rfl⟩
set_option maxRecDepth 100000 in
set_option maxHeartbeats 400000 in
theorem compareInt_any (x y : Int) (w : World) : Calls Tryz.prog 194 #[.int .i64 x, .int .i64 y] w fun e w' => e = .returned (.int .i64 (cmpI x y)) ∧ w' = w := by
  have C := hide isNaN_any
  by_cases h1 : x < y
  · have HE : Hid (cmpI x y = -1) := if_pos h1
    go_enter Tryz.func194, Tryz.ntmps194
    go_wp2_with (go_at_call 208; refine (C.out _ _).mono ?_; rintro e w' ⟨rfl, rfl⟩)
    go_ret
    exact ⟨ret_int HE.out.symm, rfl⟩
  · by_cases h2 : y < x
    · have HE : Hid (cmpI x y = 1) := by show (if x < y then (-1 : Int) else if y < x then 1 else 0) = 1; rw [if_neg h1, if_pos h2]
      go_enter Tryz.func194, Tryz.ntmps194
      go_wp2_with (go_at_call 208; refine (C.out _ _).mono ?_; rintro e w' ⟨rfl, rfl⟩)
      go_ret
      exact ⟨ret_int HE.out.symm, rfl⟩
    · have HE : Hid (cmpI x y = 0) := by show (if x < y then (-1 : Int) else if y < x then 1 else 0) = 0; rw [if_neg h1, if_neg h2]
      go_enter Tryz.func194, Tryz.ntmps194
      go_wp2_with (go_at_call 208; refine (C.out _ _).mono ?_; rintro e w' ⟨rfl, rfl⟩)
      go_ret
      exact ⟨ret_int HE.out.symm, rfl⟩
set_option maxRecDepth 100000 in
set_option maxHeartbeats 400000 in
theorem cmpS_any (x y : Int × Nat) (a0 a1 d0 d1 : Value) (w0 w : World) (h1 : ElS w0 x a0 a1) (h2 : ElS w0 y d0 d1) (_ : ∀ k, k < w0.heap.size → w.heap[k]? = w0.heap[k]?) (_ : w0.heap.size ≤ w.heap.size) (_ : SmS x) (_ : SmS y) :
    Calls Tryz.prog 161 #[.agg #[a0, a1], .agg #[d0, d1]] w fun e w' => e = .returned (.int .i64 (cmpT x y)) ∧ Below w.heap.size w w' := by
  obtain ⟨rfl, rfl⟩ := h1
  obtain ⟨rfl, rfl⟩ := h2
  have C := hide compareInt_any
  go_enter Tryz.func161, Tryz.ntmps161
  go_wp2_with (go_at_call 194; refine (C.out _ _ _).mono ?_; rintro e w' ⟨rfl, rfl⟩)
  go_ret
  exact ⟨rfl, ((Below.refl _ _).alloc (Nat.le_refl _) _).alloc (by simp) _⟩
end Go.Proofs.YtamcclcbmenjdaaGreatDoor

/- join's heap of rests (of samples): its five methods. -/
namespace Go.Proofs.YtamcclcbmenjdaaGreatDoor
open Go.RowKit Go.Lib

theorem methS_push (p : Option Addr) (W : World) : (method 398 229 (.pointer p) "Push").run Tryz.prog W = .ok (234, .pointer p) W := by kernel_rfl
theorem methS_pop (p : Option Addr) (W : World) : (method 398 229 (.pointer p) "Pop").run Tryz.prog W = .ok (233, .pointer p) W := by kernel_rfl
theorem methS_len (p : Option Addr) (W : World) : (method 398 229 (.pointer p) "Len").run Tryz.prog W = .ok (162, .pointer p) W := by kernel_rfl
theorem methS_less (p : Option Addr) (W : World) : (method 398 229 (.pointer p) "Less").run Tryz.prog W = .ok (232, .pointer p) W := by kernel_rfl
theorem methS_swap (p : Option Addr) (W : World) : (method 398 229 (.pointer p) "Swap").run Tryz.prog W = .ok (235, .pointer p) W := by kernel_rfl
theorem Tryz.infoRowS : (Tryz.prog.info? 35).map (fun i => (i.zero, i.size, i.bytes)) = some (some (.slice none 0 0), 1, 24) := by kernel_rfl

/-- A heap of rests in memory: the struct, and the row of slices. -/
structure RstS (w0 : World) (K : Nat → Obj → Prop) (W : World) (hb : Nat) (lv : Value) (vs : List Value) : Prop where
  below : Below w0.heap.size w0 W
  base : w0.heap.size ≤ hb
  lt : hb < W.heap.size
  c0 : W.cell? ⟨hb, 0, none⟩ = some lv
  c1 : W.cell? ⟨hb, 1, none⟩ = some (.func (.func 161) #[] #[])
  f0 : W.frozen? ⟨hb, 0, none⟩ = false
  own : W.ownsRow w0.heap.size 35 1 lv vs.length vs
  ne : lv.ownBlock ≠ some hb
  kp : ∀ k o, K k o → W.heap[k]? = some o ∧ k ≠ hb ∧ lv.ownBlock ≠ some k
/-- The lists that the slices are. -/
structure ListsS (w0 : World) (vs : List Value) (ls : List (List (Int × Nat))) : Prop where
  len : vs.length = ls.length
  each : ∀ (i : Nat) (v : Value) (l : List (Int × Nat)), vs[i]? = some v → ls[i]? = some l → SamplesAt w0 w0.heap.size v l ∧ l ≠ []
theorem lt_of_heapS {W : World} {k : Nat} {o : Obj} (h : W.heap[k]? = some o) : k < W.heap.size := (Array.getElem?_eq_some_iff.1 h).1
/-- Blocks of K may change, others stay. -/
theorem RstS.move {w0 : World} {K K' : Nat → Obj → Prop} {W W' : World} {hb : Nat} {lv : Value} {vs : List Value} (h : RstS w0 K W hb lv vs) (hs : W.heap.size ≤ W'.heap.size) (hk : ∀ k, k < W.heap.size → (∀ o, ¬ K k o) → W'.heap[k]? = W.heap[k]?) (hK : ∀ k o, K' k o → W'.heap[k]? = some o ∧ ((∃ o', K k o') ∨ W.heap.size ≤ k)) (hb0 : Below w0.heap.size w0 W') : RstS w0 K' W' hb lv vs := by
  have hkh := hk hb h.lt fun o ho => (h.kp hb o ho).2.1 rfl
  refine ⟨hb0, h.base, Nat.lt_of_lt_of_le h.lt hs, (World.cell?_of_block (a := ⟨hb, 0, none⟩) hkh).trans h.c0, (World.cell?_of_block (a := ⟨hb, 1, none⟩) hkh).trans h.c1, (World.frozen?_of_block (a := ⟨hb, 0, none⟩) hkh).trans h.f0,
    own_kept h.own fun k e => hk k (World.ownsRow.lt h.own k e).2 fun o ho => (h.kp k o ho).2.2 e, h.ne, fun k o ho => ?_⟩
  obtain ⟨h1, h2⟩ := hK k o ho
  refine ⟨h1, ?_⟩
  rcases h2 with ⟨o', h2⟩ | h2
  · exact (h.kp k o' h2).2
  · exact ⟨fun e => by have := h.lt; omega, fun e => by have := (World.ownsRow.lt h.own k e).2; omega⟩
theorem RstS.kept {w0 : World} {K : Nat → Obj → Prop} {W W' : World} {hb : Nat} {lv : Value} {vs : List Value} (h : RstS w0 K W hb lv vs) (hbl : Below W.heap.size W W') : RstS w0 K W' hb lv vs := by
  have hk := hbl.block hb h.lt
  exact ⟨h.below.trans (hbl.mono h.below.size), h.base, Nat.lt_of_lt_of_le h.lt hbl.size, (World.cell?_of_block (a := ⟨hb, 0, none⟩) hk).trans h.c0, (World.cell?_of_block (a := ⟨hb, 1, none⟩) hk).trans h.c1, (World.frozen?_of_block (a := ⟨hb, 0, none⟩) hk).trans h.f0,
    own_kept h.own fun k e => hbl.block k (World.ownsRow.lt h.own k e).2, h.ne, fun k o hk => ⟨(hbl.block k (lt_of_heapS (h.kp k o hk).1)).trans (h.kp k o hk).1, (h.kp k o hk).2⟩⟩
theorem RstS.shape {w0 : World} {K : Nat → Obj → Prop} {W : World} {hb : Nat} {lv : Value} {vs : List Value} (h : RstS w0 K W hb lv vs) : ∃ a c, lv = .slice a vs.length c := own_shape h.own
theorem RstS.get {w0 : World} {K : Nat → Obj → Prop} {W : World} {hb : Nat} {lv : Value} {vs : List Value} (h : RstS w0 K W hb lv vs) {i : Nat} {v : Value} (hv : vs[i]? = some v) : ∃ g c, lv = .slice (some ⟨g, 0, none⟩) vs.length c ∧ W.cell? ⟨g, i, none⟩ = some v ∧ W.frozen? ⟨g, i, none⟩ = false ∧ w0.heap.size ≤ g ∧ g ≠ hb ∧ g < W.heap.size := by
  have hi := (List.getElem?_eq_some_iff.1 hv).1
  rcases h.own.2 with ⟨rfl, h0⟩ | ⟨g, cap, cur, rfl, hg, hh, hc, hcm, hcs, ht⟩
  · omega
  · have hown := h.own
    refine ⟨g, cap, rfl, own_cell hown hv, ?_, hg, fun e => h.ne (by rw [e]; rfl), (World.ownsRow.lt hown g rfl).2⟩
    simp [World.frozen?, hh]

set_option maxRecDepth 100000 in
set_option maxHeartbeats 400000 in
theorem lenS_any {w0 : World} {K : Nat → Obj → Prop} {hb : Nat} {lv : Value} {vs : List Value} (W : World) (h : RstS w0 K W hb lv vs) :
    Calls Tryz.prog 162 #[.pointer (some ⟨hb, 0, none⟩)] W fun e w' => e = .returned (.int .i64 vs.length) ∧ w' = W := by
  obtain ⟨a, c, rfl⟩ := h.shape
  have c0 := h.c0
  clear h
  go_enter Tryz.func162, Tryz.ntmps162
  go_wp2
  go_ret
  exact ⟨rfl, rfl⟩

set_option maxRecDepth 100000 in
set_option maxHeartbeats 1000000 in
theorem lessS_any {w0 : World} {K : Nat → Obj → Prop} {hb : Nat} {lv : Value} {vs : List Value} {ls : List (List (Int × Nat))} (W : World) (h : RstS w0 K W hb lv vs) (hl : ListsS w0 vs ls) (hsm : ∀ l ∈ ls, ∀ x ∈ l, SmS x) (i j : Nat) {l m : List (Int × Nat)} {x y : (Int × Nat)} {r s : List (Int × Nat)} (hi : ls[i]? = some l) (hj : ls[j]? = some m) (hx : l = x :: r) (hy : m = y :: s) :
    Calls Tryz.prog 232 #[.pointer (some ⟨hb, 0, none⟩), .int .i64 i, .int .i64 j] W fun e w' => e = .returned (.bool (decide (cmpT x y < 0))) ∧ Below W.heap.size W w' := by
  have hil : i < vs.length := by rw [hl.len]; exact (List.getElem?_eq_some_iff.1 hi).1
  have hjl : j < vs.length := by rw [hl.len]; exact (List.getElem?_eq_some_iff.1 hj).1
  obtain ⟨v, hv⟩ : ∃ v, vs[i]? = some v := ⟨_, List.getElem?_eq_getElem hil⟩
  obtain ⟨u, hu⟩ : ∃ u, vs[j]? = some u := ⟨_, List.getElem?_eq_getElem hjl⟩
  obtain ⟨g, c, rfl, g1, _, hg0, hgn, hgl⟩ := h.get hv
  obtain ⟨g', c', e, g2, _, _⟩ := h.get hu
  cases e
  have hA := (hl.each i v l hv hi).1
  have hB := (hl.each j u m hu hj).1
  subst hx hy
  obtain ⟨b1, o1, k1, a0, a1, rfl, hb1, p0, p1, hE1⟩ := hA.head
  obtain ⟨b2, o2, k2, d0, d1, rfl, hb2, q0, q1, hE2⟩ := hB.head
  have c0 := h.c0
  have c1 := h.c1
  have hbl := h.below
  have hs := hbl.size
  have hlt := h.lt
  have m0 := (hbl.cell (p := ⟨b1, o1, none⟩) hb1).trans p0
  have m1 := (hbl.cell (p := ⟨b1, o1 + 1, none⟩) hb1).trans p1
  have t0 := (hbl.cell (p := ⟨b2, o2, none⟩) hb2).trans q0
  have t1 := (hbl.cell (p := ⟨b2, o2 + 1, none⟩) hb2).trans q1
  have C : Hid (∀ W2 : World, W2.heap = W.heap → Calls Tryz.prog 161 #[.agg #[a0, a1], .agg #[d0, d1]] W2 fun e w' => e = .returned (.int .i64 (cmpT x y)) ∧ Below W.heap.size W2 w') := fun W2 hW2 => by
    have hh := cmpS_any x y a0 a1 d0 d1 w0 W2 hE1 hE2 (fun k hk => by rw [hW2]; exact hbl.block k hk) (by rw [hW2]; exact hs) (hsm _ (List.mem_of_getElem? hi) x (by simp)) (hsm _ (List.mem_of_getElem? hj) y (by simp))
    rw [hW2] at hh; exact hh
  obtain ⟨rfl, rfl⟩ := id hE1
  obtain ⟨rfl, rfl⟩ := id hE2
  have i0 : (0 : Int) ≤ (i : Int) := by omega
  have i1 : (i : Int) < (vs.length : Int) := by omega
  have j0 : (0 : Int) ≤ (j : Int) := by omega
  have j1 : (j : Int) < (vs.length : Int) := by omega
  clear h hl hA hB hi hj hv hu hsm hbl hE1 hE2
  go_enter Tryz.func232, Tryz.ntmps232
  go_wp2
  as_aux_lemma =>
    go_region_held3 (fun w' => w'.cell? ⟨hb, 0, none⟩ = some (.slice (some ⟨g, 0, none⟩) vs.length c) ∧ w'.cell? ⟨hb, 1, none⟩ = some (.func (.func 161) #[] #[]) ∧ w'.cell? ⟨g, i, none⟩ = some (.slice (some ⟨b1, o1, none⟩) (r.length + 1) k1) ∧ w'.cell? ⟨g, j, none⟩ = some (.slice (some ⟨b2, o2, none⟩) (s.length + 1) k2) ∧ w'.cell? ⟨b1, o1, none⟩ = some (.int .i64 x.1) ∧ w'.cell? ⟨b1, o1 + 1, none⟩ = some (.int .u64 x.2) ∧ w'.cell? ⟨b2, o2, none⟩ = some (.int .i64 y.1) ∧ w'.cell? ⟨b2, o2 + 1, none⟩ = some (.int .u64 y.2)) (go_keep) (first | (go_at_call 161; refine (C.out _ (by exact rfl)).mono ?_; rintro e w2 ⟨rfl, hb3⟩; have y0 := (hb3.cell (p := ⟨hb, 0, none⟩) hlt).trans c0; have y1 := (hb3.cell (p := ⟨hb, 1, none⟩) hlt).trans c1; have y2 := (hb3.cell (p := ⟨g, i, none⟩) hgl).trans g1; have y3 := (hb3.cell (p := ⟨g, j, none⟩) hgl).trans g2; have y4 := (hb3.cell (p := ⟨b1, o1, none⟩) (by show b1 < W.heap.size; omega)).trans m0; have y5 := (hb3.cell (p := ⟨b1, o1 + 1, none⟩) (by show b1 < W.heap.size; omega)).trans m1; have y6 := (hb3.cell (p := ⟨b2, o2, none⟩) (by show b2 < W.heap.size; omega)).trans t0; have y7 := (hb3.cell (p := ⟨b2, o2 + 1, none⟩) (by show b2 < W.heap.size; omega)).trans t1))
    all_goals
      have HB := hide ((Below.refl W.heap.size W).drew.trans hb3)
      clear hb3 y0 y1 y2 y3 y4 y5 y6 y7
      go_wp2
      go_ret
      exact ⟨rfl, HB.out⟩

/-- A cell of the row written over. -/
theorem RstS.set {w0 : World} {K : Nat → Obj → Prop} {W : World} {hb g c : Nat} {vs : List Value} (h : RstS w0 K W hb (.slice (some ⟨g, 0, none⟩) vs.length c) vs) {i : Nat} (_ : i < vs.length) (v : Value) : RstS w0 K (W.setCell ⟨g, i, none⟩ v) hb (.slice (some ⟨g, 0, none⟩) vs.length c) (vs.set i v) := by
  have hgn : g ≠ hb := fun e => h.ne (by rw [e]; rfl)
  rcases h.own.2 with ⟨h0, _⟩ | ⟨g', cap, cur, he, hg, hh, hc, hcm, hcs, ht⟩
  · cases h0
  · cases he
    have hk : hb ≠ g := fun e => hgn e.symm
    have hkb := Below.heap_setCell W ⟨g, i, none⟩ v hb hk
    refine ⟨h.below.setCell hg _, h.base, by simpa using h.lt, (World.cell?_of_block (a := ⟨hb, 0, none⟩) hkb).trans h.c0, (World.cell?_of_block (a := ⟨hb, 1, none⟩) hkb).trans h.c1, (World.frozen?_of_block (a := ⟨hb, 0, none⟩) hkb).trans h.f0, ?_, h.ne, fun k o ho => ⟨(Below.heap_setCell W ⟨g, i, none⟩ v k (fun e => (h.kp k o ho).2.2 (by rw [e]; rfl))).trans (h.kp k o ho).1, (h.kp k o ho).2⟩⟩
    rw [List.length_set]
    refine ⟨by simp, .inr ⟨g, c, cur.setIfInBounds i v, rfl, hg, ?_, hc, hcm, by simpa using hcs, ?_⟩⟩
    · rw [setCell_eq_setRow W g i cur 35 (0, 0) v hh]
      exact setRow_heap W g cur _ 35 (0, 0) hh
    · rw [Nat.mul_one] at ht ⊢
      rw [Array.toList_setIfInBounds, List.take_set, ht]

set_option maxRecDepth 100000 in
set_option maxHeartbeats 1000000 in
theorem swapS_any {w0 : World} {K : Nat → Obj → Prop} {hb : Nat} {lv : Value} {vs : List Value} (W : World) (h : RstS w0 K W hb lv vs) (i j : Nat) {v u : Value} (hi : vs[i]? = some v) (hj : vs[j]? = some u) (hsv : ∃ a n c, v = .slice a n c) (hsu : ∃ a n c, u = .slice a n c) :
    Calls Tryz.prog 235 #[.pointer (some ⟨hb, 0, none⟩), .int .i64 i, .int .i64 j] W fun e w' => e = .returned (.tuple #[]) ∧ RstS w0 K w' hb lv ((vs.set i u).set j v) := by
  have hil := (List.getElem?_eq_some_iff.1 hi).1
  have hjl := (List.getElem?_eq_some_iff.1 hj).1
  obtain ⟨g, c, rfl, g1, gf1, hg0, hgn, hgl⟩ := h.get hi
  obtain ⟨g', c', e, g2, gf2, _⟩ := h.get hj
  cases e
  obtain ⟨a1, n1, k1, rfl⟩ := hsv
  obtain ⟨a2, n2, k2, rfl⟩ := hsu
  have c0 := h.c0
  have h2 := (h.set hil (.slice a2 n2 k2))
  have h3 : RstS w0 K ((W.setCell ⟨g, i, none⟩ (.slice a2 n2 k2)).setCell ⟨g, j, none⟩ (.slice a1 n1 k1)) hb (.slice (some ⟨g, 0, none⟩) vs.length c) ((vs.set i (.slice a2 n2 k2)).set j (.slice a1 n1 k1)) := by
    have e : (vs.set i (.slice a2 n2 k2)).length = vs.length := by simp
    have h4 := RstS.set (vs := vs.set i (.slice a2 n2 k2)) (by rw [e]; exact h2) (i := j) (by rw [e]; exact hjl) (.slice a1 n1 k1)
    rw [e] at h4; exact h4
  have hx : (W.setCell ⟨g, i, none⟩ (.slice a2 n2 k2)).cell? ⟨g, j, none⟩ = some (.slice a2 n2 k2) := by
    by_cases e : i = j
    · subst e; exact World.cell?_setCell_same _ _ _ g1
    · rw [World.cell?_setCell_other _ _ _ _ (fun y => e (congrArg Addr.off y))]; exact g2
  have H3 := hide h3
  have i0 : (0 : Int) ≤ (i : Int) := by omega
  have i1 : (i : Int) < (vs.length : Int) := by omega
  have j0 : (0 : Int) ≤ (j : Int) := by omega
  have j1 : (j : Int) < (vs.length : Int) := by omega
  have hne : ¬ hb = g := fun e => hgn e.symm
  clear h h2 h3 hi hj
  go_enter Tryz.func235, Tryz.ntmps235
  go_region
  all_goals
    go_wp2
    go_end0
    exact ⟨rfl, H3.out.kept ((Below.refl _ _).drew)⟩
end Go.Proofs.YtamcclcbmenjdaaGreatDoor

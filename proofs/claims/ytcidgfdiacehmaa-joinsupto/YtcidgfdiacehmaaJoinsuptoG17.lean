/- 'choirlaw.Joins', for any two lists of series of bulk at most 1048576: Join answers the document's join or error, either way round; what is handed in stays, what comes out is its owner's. The second form's statement: its only condition is the row's own bound on the arguments' bulk. -/
import Derived.Test.YtcidgfdiacehmaaJoinsuptoG16
/- Rising lists brought together, pure: what is taken off a heap of rests. -/
namespace Go.Proofs.Ytcidgfdiacehmaa
open Go.RowKit Go.Lib

/-- An order by a comparison that answers -1, 0 or 1. -/
structure Cmps {α : Type} (c : α → α → Int) : Prop where
  three : ∀ x y, c x y = -1 ∨ c x y = 0 ∨ c x y = 1
  neg : ∀ x y, c y x = - c x y
  tr : ∀ {x y z}, c x y = -1 → c y z = -1 → c x z = -1
  eqv : ∀ {x y z}, c x y = 0 → c y z = -1 → c x z = -1
theorem Cmps.self {α : Type} {c : α → α → Int} (h : Cmps c) (x : α) : c x x = 0 := by have := h.neg x x; omega
theorem Cmps.eqv2 {α : Type} {c : α → α → Int} (h : Cmps c) {x y z : α} (h1 : c x y = -1) (h2 : c y z = 0) : c x z = -1 := by
  have a1 := h.neg x y
  have a2 := h.neg y z
  have a3 := h.neg x z
  rcases h.three x z with e | e | e
  · exact e
  · have := h.eqv (x := z) (y := x) (z := y) (by omega) h1
    omega
  · have := h.tr (x := z) (y := x) (z := y) (by omega) h1
    omega
theorem Cmps.eqv0 {α : Type} {c : α → α → Int} (h : Cmps c) {x y z : α} (h1 : c x y = 0) (h2 : c y z = 0) : c x z = 0 := by
  have a1 := h.neg x y
  have a2 := h.neg y z
  have a3 := h.neg x z
  rcases h.three x z with e | e | e
  · have := h.eqv (x := y) (y := x) (z := z) (by omega) e
    omega
  · exact e
  · have := h.eqv (x := y) (y := z) (z := x) (by omega) (by omega)
    omega
theorem Cmps.le_tr {α : Type} {c : α → α → Int} (h : Cmps c) {x y z : α} (h1 : c x y ≤ 0) (h2 : c y z ≤ 0) : c x z ≤ 0 := by
  rcases h.three x y with e | e | e <;> rcases h.three y z with f | f | f <;> try omega
  · have := h.tr e f; omega
  · have := h.eqv2 e f; omega
  · have := h.eqv e f; omega
  · have := h.eqv0 e f; omega
theorem Cmps.tot {α : Type} {c : α → α → Int} (h : Cmps c) (x y : α) : c x y ≤ 0 ∨ c y x ≤ 0 := by
  have := h.neg x y; omega
theorem Cmps.lt_le {α : Type} {c : α → α → Int} (h : Cmps c) {x y z : α} (h1 : c x y = -1) (h2 : c y z ≤ 0) : c x z = -1 := by
  rcases h.three y z with f | f | f
  · exact h.tr h1 f
  · exact h.eqv2 h1 f
  · omega

def cmpT (x y : Int × Nat) : Int := if x.1 < y.1 then -1 else if y.1 < x.1 then 1 else 0
def cmpS (x y : Ser) : Int := cmpLabs x.1 y.1
theorem cmpT_ok : Cmps cmpT := by
  refine ⟨fun x y => ?_, fun x y => ?_, fun {x y z} h1 h2 => ?_, fun {x y z} h1 h2 => ?_⟩
  · unfold cmpT; split; · simp
    split <;> simp
  · unfold cmpT; split <;> split <;> (try split) <;> omega
  · unfold cmpT at *
    have a : x.1 < y.1 := by
      by_cases e : x.1 < y.1
      · exact e
      · rw [if_neg e] at h1; split at h1 <;> omega
    have b : y.1 < z.1 := by
      by_cases e : y.1 < z.1
      · exact e
      · rw [if_neg e] at h2; split at h2 <;> omega
    rw [if_pos (by omega)]
  · unfold cmpT at *
    have a : ¬ x.1 < y.1 := fun e => by rw [if_pos e] at h1; omega
    have a2 : ¬ y.1 < x.1 := fun e => by rw [if_neg a, if_pos e] at h1; omega
    have b : y.1 < z.1 := by
      by_cases e : y.1 < z.1
      · exact e
      · rw [if_neg e] at h2; split at h2 <;> omega
    rw [if_pos (by omega)]
theorem cmpT_lt (x y : Int × Nat) : cmpT x y = -1 ↔ x.1 < y.1 := by
  unfold cmpT; constructor
  · intro h
    by_cases e : x.1 < y.1
    · exact e
    · rw [if_neg e] at h; split at h <;> omega
  · intro h; rw [if_pos h]
theorem cmpT_eq (x y : Int × Nat) : cmpT x y = 0 ↔ x.1 = y.1 := by
  unfold cmpT; constructor
  · intro h
    by_cases e : x.1 < y.1
    · rw [if_pos e] at h; omega
    · rw [if_neg e] at h
      by_cases e2 : y.1 < x.1
      · rw [if_pos e2] at h; omega
      · omega
  · intro h; rw [if_neg (by omega), if_neg (by omega)]
theorem cmpS_ok : Cmps cmpS := by
  refine ⟨fun x y => cmpLabs_three _ _, fun x y => cmpLabs_neg _ _, fun h1 h2 => cmpLabs_trans h1 h2, fun {x y z} h1 h2 => ?_⟩
  have := (cmpLabs_zero _ _).1 h1
  unfold cmpS at *
  rw [this]; exact h2

/-- The rests of a heap: none is empty, each rises. -/
structure Rests {α : Type} (c : α → α → Int) (ls : List (List α)) : Prop where
  some : ∀ l ∈ ls, l ≠ []
  rise : ∀ l ∈ ls, l.Pairwise fun x y => c x y = -1
theorem Rests.perm {α : Type} {c : α → α → Int} {ls ms : List (List α)} (h : Rests c ls) (hp : ms.Perm ls) : Rests c ms :=
  ⟨fun l hl => h.some l (hp.mem_iff.1 hl), fun l hl => h.rise l (hp.mem_iff.1 hl)⟩
/-- What is left when the first of a list has been taken. -/
def restOf {α : Type} (t : List α) (ls : List (List α)) : List (List α) := if t = [] then ls else t :: ls
theorem restOf_flat {α : Type} (t : List α) (ls : List (List α)) : (restOf t ls).flatten = t ++ ls.flatten := by
  unfold restOf; split
  · rename_i h; subst h; rfl
  · rfl
theorem Rests.rest {α : Type} {c : α → α → Int} {x : α} {t : List α} {ls : List (List α)} (h : Rests c ((x :: t) :: ls)) : Rests c (restOf t ls) := by
  have h1 := h.rise _ (List.mem_cons_self ..)
  have h2 := (List.pairwise_cons.1 h1).2
  unfold restOf; split
  · exact ⟨fun l hl => h.some l (List.mem_cons_of_mem _ hl), fun l hl => h.rise l (List.mem_cons_of_mem _ hl)⟩
  · rename_i hne
    refine ⟨fun l hl => ?_, fun l hl => ?_⟩
    · rcases List.mem_cons.1 hl with rfl | hl
      · exact hne
      · exact h.some l (List.mem_cons_of_mem _ hl)
    · rcases List.mem_cons.1 hl with rfl | hl
      · exact h2
      · exact h.rise l (List.mem_cons_of_mem _ hl)
/-- The least first is the least of all. -/
theorem Rests.least {α : Type} {c : α → α → Int} (hc : Cmps c) {x : α} {ls : List (List α)} (h : Rests c ls) (hm : ∀ l ∈ ls, ∀ y, l.head? = .some y → c x y ≤ 0) : ∀ y ∈ ls.flatten, c x y ≤ 0 := fun y hy => by
  obtain ⟨l, hl, hyl⟩ := List.mem_flatten.1 hy
  cases l with
  | nil => cases hyl
  | cons a r =>
    have h1 := hm _ hl a rfl
    rcases List.mem_cons.1 hyl with rfl | hyr
    · exact h1
    · have := (List.pairwise_cons.1 (h.rise _ hl)).1 y hyr
      exact hc.le_tr h1 (by omega)

/-- Alike: all that is taken of the first kind, and what is left. -/
structure Alike {α : Type} (c : α → α → Int) (ls : List (List α)) (x : α) (aa : List α) (ms : List (List α)) : Prop where
  perm : ls.flatten.Perm (aa ++ ms.flatten)
  same : ∀ a ∈ aa, c x a = 0
  least : ∀ y ∈ ms.flatten, c x y ≤ 0
  rests : Rests c ms
theorem Alike.first {α : Type} {c : α → α → Int} (hc : Cmps c) {ls : List (List α)} {x : α} {t : List α} {ms ns : List (List α)} (hr : Rests c ls) (hp : ls.Perm ((x :: t) :: ms)) (hn : ns.Perm (restOf t ms)) (hm : ∀ l ∈ ls, ∀ y, l.head? = .some y → c x y ≤ 0) : Alike c ls x [x] ns := by
  have h1 := hr.perm hp.symm
  have hf : ls.flatten.Perm (x :: ns.flatten) := by
    refine hp.flatten.trans ?_
    show (x :: (t ++ ms.flatten)).Perm _
    refine List.Perm.cons _ ?_
    rw [← restOf_flat]
    exact hn.symm.flatten
  refine ⟨hf, fun a ha => by simp at ha; subst ha; exact hc.self _, fun y hy => ?_, h1.rest.perm hn⟩
  exact hr.least hc hm y (hf.mem_iff.2 (List.mem_cons_of_mem _ hy))
theorem Alike.next {α : Type} {c : α → α → Int} {ls : List (List α)} {x y : α} {aa t : List α} {ms ns os : List (List α)} (h : Alike c ls x aa ms) (hp : ms.Perm ((y :: t) :: ns)) (hn : os.Perm (restOf t ns)) (he : c x y = 0) : Alike c ls x (aa ++ [y]) os := by
  have hf : ms.flatten.Perm (y :: os.flatten) := by
    refine hp.flatten.trans ?_
    show (y :: (t ++ ns.flatten)).Perm _
    refine List.Perm.cons _ ?_
    rw [← restOf_flat]
    exact hn.symm.flatten
  refine ⟨?_, fun a ha => ?_, fun z hz => h.least z (hf.mem_iff.2 (List.mem_cons_of_mem _ hz)), (h.rests.perm hp.symm).rest.perm hn⟩
  · refine h.perm.trans ?_
    rw [List.append_assoc]
    exact List.Perm.append_left _ hf
  · rcases List.mem_append.1 ha with ha | ha
    · exact h.same a ha
    · simp at ha; subst ha; exact he
/-- All that is left is greater. -/
theorem Alike.ends {α : Type} {c : α → α → Int} (hc : Cmps c) {ls : List (List α)} {x : α} {aa : List α} {ms : List (List α)} (h : Alike c ls x aa ms) (hm : ms = [] ∨ ∃ y, c x y ≠ 0 ∧ y ∈ ms.flatten ∧ ∀ l ∈ ms, ∀ z, l.head? = .some z → c y z ≤ 0) : ∀ y ∈ ms.flatten, c x y = -1 := fun z hz => by
  rcases hm with rfl | ⟨y, hne, hy, hl⟩
  · simp at hz
  · have h1 := h.least y hy
    have h2 : c x y = -1 := by have := hc.three x y; omega
    exact hc.lt_le h2 (h.rests.least hc hl z hz)

/- Samples. -/
/-- j has of each time the greatest bits of d. -/
structure Tops (d j : List (Int × Nat)) : Prop where
  rise : j.Pairwise SLt
  mem : ∀ t v, (t, v) ∈ j ↔ (t, v) ∈ d ∧ ∀ u, (t, u) ∈ d → u ≤ v
theorem Tops.nil : Tops [] [] := ⟨.nil, fun t v => by simp⟩
theorem Tops.perm {d e j : List (Int × Nat)} (h : Tops d j) (hp : d.Perm e) : Tops e j := ⟨h.rise, fun t v => by rw [h.mem]; simp only [hp.mem_iff]⟩
theorem Tops.app {d j aa : List (Int × Nat)} {x m : Int × Nat} (h : Tops d j) (hs : ∀ a ∈ aa, cmpT x a = 0) (hm : m ∈ aa) (hmax : ∀ a ∈ aa, a.2 ≤ m.2) (hlt : ∀ a ∈ aa, ∀ y ∈ d, cmpT y a = -1) : Tops (d ++ aa) (j ++ [m]) := by
  have hx : ∀ a ∈ aa, a.1 = m.1 := fun a ha => by
    have h1 := (cmpT_eq _ _).1 (hs a ha)
    have h2 := (cmpT_eq _ _).1 (hs m hm)
    omega
  have hd : ∀ y ∈ d, y.1 < m.1 := fun y hy => (cmpT_lt _ _).1 (hlt m hm y hy)
  refine ⟨List.pairwise_append.2 ⟨h.rise, List.pairwise_singleton _ _, fun a ha b hb => ?_⟩, fun t v => ?_⟩
  · simp at hb; subst hb
    exact hd a ((h.mem a.1 a.2).1 ha).1
  · rw [List.mem_append, List.mem_append, h.mem]
    constructor
    · rintro (⟨h1, h2⟩ | h1)
      · refine ⟨.inl h1, fun u hu => ?_⟩
        rcases List.mem_append.1 hu with hu | hu
        · exact h2 u hu
        · have e1 := hx _ hu
          have e2 := hd _ h1
          simp only at e1 e2; omega
      · simp at h1; subst h1
        refine ⟨.inr hm, fun u hu => ?_⟩
        rcases List.mem_append.1 hu with hu | hu
        · have e2 := hd _ hu
          simp only at e2; omega
        · exact hmax _ hu
    · rintro ⟨h1 | h1, h2⟩
      · exact .inl ⟨h1, fun u hu => h2 u (List.mem_append_left _ hu)⟩
      · refine .inr ?_
        have e1 := hx _ h1
        simp only at e1
        have h3 := hmax _ h1
        have h4 := h2 m.2 (List.mem_append_right _ (by rw [e1]; exact hm))
        simp only at h3
        have : (t, v) = m := Prod.ext e1 (by simp only; omega)
        simp [this]
theorem max_of (t : Int) : ∀ (l : List (Int × Nat)), (∃ v, (t, v) ∈ l) → ∃ v, (t, v) ∈ l ∧ ∀ u, (t, u) ∈ l → u ≤ v
  | [] => by rintro ⟨v, hv⟩; cases hv
  | a :: r => by
    rintro ⟨v, hv⟩
    have ih := max_of t r
    by_cases hr : ∃ w, (t, w) ∈ r
    · obtain ⟨w, hw, hwm⟩ := ih hr
      by_cases ha : a.1 = t ∧ w ≤ a.2
      · refine ⟨a.2, by rw [← ha.1]; exact List.mem_cons_self .., fun u hu => ?_⟩
        rcases List.mem_cons.1 hu with e | hu
        · rw [← e]; exact Nat.le_refl _
        · exact Nat.le_trans (hwm u hu) ha.2
      · refine ⟨w, List.mem_cons_of_mem _ hw, fun u hu => ?_⟩
        rcases List.mem_cons.1 hu with e | hu
        · rw [← e] at ha; simp only [true_and] at ha; omega
        · exact hwm u hu
    · rcases List.mem_cons.1 hv with e | hv
      · refine ⟨v, by rw [e]; exact List.mem_cons_self .., fun u hu => ?_⟩
        rcases List.mem_cons.1 hu with e2 | hu
        · rw [← e] at e2; exact Nat.le_of_eq (Prod.mk.inj e2).2
        · exact absurd ⟨u, hu⟩ hr
      · exact absurd ⟨v, hv⟩ hr
theorem Tops.ne {d j : List (Int × Nat)} (h : Tops d j) (hd : d ≠ []) : j ≠ [] := by
  obtain ⟨x, hx⟩ := List.exists_mem_of_ne_nil _ hd
  obtain ⟨v, hv, hm⟩ := max_of x.1 d ⟨x.2, hx⟩
  intro e
  have := (h.mem x.1 v).2 ⟨hv, hm⟩
  rw [e] at this; cases this

/- Series. -/
/-- Series of the same labels aa one. -/
structure OneOf (aa : List Ser) (l : List Lab) (s : Ser) : Prop where
  labels : s.1 = l
  tops : Tops (aa.map (·.2)).flatten s.2
/-- j has of each labels of d one series, with of each time the greatest bits. -/
structure STops (d j : List Ser) : Prop where
  rise : j.Pairwise LLt
  back : ∀ s ∈ j, ∃ x ∈ d, x.1 = s.1
  forth : ∀ x ∈ d, ∃ s ∈ j, s.1 = x.1
  tops : ∀ s ∈ j, Tops ((d.filter fun x => decide (x.1 = s.1)).map (·.2)).flatten s.2
theorem STops.nil : STops [] [] := ⟨.nil, fun _ h => (by cases h), fun _ h => (by cases h), fun _ h => (by cases h)⟩
theorem STops.app {d j aa : List Ser} {x s : Ser} (h : STops d j) (hs : ∀ a ∈ aa, cmpS x a = 0) (hne : aa ≠ []) (h1 : OneOf aa x.1 s) (hlt : ∀ a ∈ aa, ∀ y ∈ d, cmpS y a = -1) : STops (d ++ aa) (j ++ [s]) := by
  have hx : ∀ a ∈ aa, a.1 = x.1 := fun a ha => ((cmpLabs_zero _ _).1 (hs a ha)).symm
  obtain ⟨a0, ha0⟩ := List.exists_mem_of_ne_nil _ hne
  have hd : ∀ y ∈ d, cmpLabs y.1 x.1 = -1 := fun y hy => by
    have := hlt a0 ha0 y hy
    unfold cmpS at this
    rw [hx a0 ha0] at this; exact this
  have hdn : ∀ y ∈ d, y.1 ≠ x.1 := fun y hy e => by
    have := hd y hy
    rw [e, cmpLabs_self] at this; omega
  refine ⟨List.pairwise_append.2 ⟨h.rise, List.pairwise_singleton _ _, fun a ha b hb => ?_⟩, fun r hr => ?_, fun y hy => ?_, fun r hr => ?_⟩
  · simp at hb; subst hb
    obtain ⟨y, hy, e⟩ := h.back a ha
    have := hd y hy
    show cmpLabs a.1 b.1 = -1
    rw [← e, h1.labels]; exact this
  · rcases List.mem_append.1 hr with hr | hr
    · obtain ⟨y, hy, e⟩ := h.back r hr
      exact ⟨y, List.mem_append_left _ hy, e⟩
    · simp at hr; subst hr
      exact ⟨a0, List.mem_append_right _ ha0, by rw [hx a0 ha0, h1.labels]⟩
  · rcases List.mem_append.1 hy with hy | hy
    · obtain ⟨r, hr, e⟩ := h.forth y hy
      exact ⟨r, List.mem_append_left _ hr, e⟩
    · exact ⟨s, List.mem_append_right _ (by simp), by rw [hx y hy, h1.labels]⟩
  · rcases List.mem_append.1 hr with hr | hr
    · obtain ⟨y, hy, e⟩ := h.back r hr
      have hn : aa.filter (fun z => decide (z.1 = r.1)) = [] := List.filter_eq_nil_iff.2 fun z hz => by
        simp only [decide_eq_true_eq]
        intro e2
        exact hdn y hy (by rw [e, ← e2, hx z hz])
      rw [List.filter_append, hn, List.append_nil]
      exact h.tops r hr
    · simp at hr; subst hr
      have hn : d.filter (fun z => decide (z.1 = r.1)) = [] := List.filter_eq_nil_iff.2 fun z hz => by
        simp only [decide_eq_true_eq]
        rw [h1.labels]; exact hdn z hz
      have hm : aa.filter (fun z => decide (z.1 = r.1)) = aa := List.filter_eq_self.2 fun z hz => by
        simp only [decide_eq_true_eq]
        rw [h1.labels]; exact hx z hz
      rw [List.filter_append, hn, hm, List.nil_append]
      exact h1.tops
theorem STops.perm {d e j : List Ser} (h : STops d j) (hp : d.Perm e) : STops e j :=
  ⟨h.rise, fun s hs => by obtain ⟨x, hx, e⟩ := h.back s hs; exact ⟨x, hp.mem_iff.1 hx, e⟩, fun x hx => h.forth x (hp.mem_iff.2 hx), fun s hs => (h.tops s hs).perm ((hp.filter _).map _).flatten⟩
theorem LLt_cmp {bs : List Ser} (h : bs.Pairwise LLt) : bs.Pairwise fun x y => cmpS x y = -1 := h
theorem SLt_cmp {l : List (Int × Nat)} (h : l.Pairwise SLt) : l.Pairwise fun x y => cmpT x y = -1 := h.imp fun {x y} h => (cmpT_lt x y).2 h
/-- Batches whose series have been brought together so are joined. -/
theorem STops.join {bss : List (List Ser)} {j : List Ser} (h : STops bss.flatten j) (hok : ∀ bs ∈ bss, BatchOk bs) : IsJoin bss j := by
  have hmem : ∀ x ∈ bss.flatten, LabelsOk x.1 ∧ SamplesOk x.2 := fun x hx => by
    obtain ⟨bs, hb, hxb⟩ := List.mem_flatten.1 hx
    exact ((batchOk_iff bs).1 (hok bs hb)).1 x hxb
  have hin : ∀ s ∈ j, ∀ t v, (t, v) ∈ ((bss.flatten.filter fun x => decide (x.1 = s.1)).map (·.2)).flatten ↔ ∃ bs ∈ bss, Holds bs s.1 t v := fun s hs t v => by
    simp only [List.mem_flatten, List.mem_map, List.mem_filter, decide_eq_true_eq]
    constructor
    · rintro ⟨l, ⟨x, ⟨⟨bs, hb, hx⟩, e⟩, rfl⟩, hv⟩
      exact ⟨bs, hb, x, hx, e, hv⟩
    · rintro ⟨bs, hb, x, hx, e, hv⟩
      exact ⟨x.2, ⟨x, ⟨⟨bs, hb, hx⟩, e⟩, rfl⟩, hv⟩
  refine ⟨(batchOk_iff j).2 ⟨fun s hs => ?_, h.rise⟩, fun l t v => ?_⟩
  · obtain ⟨x, hx, e⟩ := h.back s hs
    refine ⟨by rw [← e]; exact (hmem x hx).1, (samplesOk_iff _).2 ⟨(h.tops s hs).ne ?_, (h.tops s hs).rise⟩⟩
    obtain ⟨y, hy⟩ := List.exists_mem_of_ne_nil _ ((samplesOk_iff _).1 (hmem x hx).2).1
    intro e2
    obtain ⟨bs, hb, hxb⟩ := List.mem_flatten.1 hx
    have := (hin s hs y.1 y.2).2 ⟨bs, hb, x, hxb, e, hy⟩
    rw [e2] at this; cases this
  · constructor
    · rintro ⟨s, hs, rfl, hv⟩
      obtain ⟨h1, h2⟩ := ((h.tops s hs).mem t v).1 hv
      exact ⟨(hin s hs t v).1 h1, fun bs hb u hu => h2 u ((hin s hs t u).2 ⟨bs, hb, hu⟩)⟩
    · rintro ⟨⟨bs, hb, x, hx, rfl, hv⟩, hmax⟩
      obtain ⟨s, hs, e⟩ := h.forth x (List.mem_flatten.2 ⟨bs, hb, hx⟩)
      refine ⟨s, hs, e, ((h.tops s hs).mem t v).2 ⟨(hin s hs t v).2 ⟨bs, hb, x, hx, e.symm, hv⟩, fun u hu => ?_⟩⟩
      obtain ⟨cs, hc, hu⟩ := (hin s hs t u).1 hu
      exact hmax cs hc u (by rw [← e]; exact hu)
end Go.Proofs.Ytcidgfdiacehmaa

/- A sample as it is compared: by its time. -/
namespace Go.Proofs.Ytcidgfdiacehmaa
open Go.RowKit Go.Lib

def ElS (_ : World) (x : Int × Nat) (c0 c1 : Value) : Prop := c0 = .int .i64 x.1 ∧ c1 = .int .u64 x.2
def SmS (_ : Int × Nat) : Prop := True
theorem SamplesAt.head {w : World} {B : Nat} {v : Value} {x : Int × Nat} {r : List (Int × Nat)} (h : SamplesAt w B v (x :: r)) : ∃ b o k a0 a1, v = .slice (some ⟨b, o, none⟩) (r.length + 1) k ∧ b < B ∧ w.cell? ⟨b, o, none⟩ = some a0 ∧ w.cell? ⟨b, o + 1, none⟩ = some a1 ∧ ElS w x a0 a1 := by
  obtain ⟨a, cap, rfl, _, _, h2⟩ := h
  rcases h2 with h2 | ⟨b, o, rfl, hb, hc⟩
  · cases h2
  · have := hc 0 x rfl
    simp only [Nat.zero_mul, Nat.add_zero] at this
    exact ⟨b, o, cap, _, _, rfl, hb, this.1, this.2, rfl, rfl⟩

/-- cmp.Compare of two numbers. -/
def cmpI (x y : Int) : Int := if x < y then -1 else if y < x then 1 else 0
set_option maxHeartbeats 400000 in
theorem isNaN_any (x : Int) (w : World) : Calls Try.prog 72 #[.int .i64 x] w fun e w' => e = .returned (.bool false) ∧ w' = w := by
  go_enter Try.func72, Try.ntmps72
  go_wp2
  go_ret
  exact ⟨by simp, rfl⟩
set_option maxRecDepth 100000 in
set_option maxHeartbeats 400000 in
theorem compareInt_any (x y : Int) (w : World) : Calls Try.prog 67 #[.int .i64 x, .int .i64 y] w fun e w' => e = .returned (.int .i64 (cmpI x y)) ∧ w' = w := by
  have C := hide isNaN_any
  by_cases h1 : x < y
  · have HE : Hid (cmpI x y = -1) := if_pos h1
    go_enter Try.func67, Try.ntmps67
    go_wp2_with (go_at_call 72; refine (C.out _ _).mono ?_; rintro e w' ⟨rfl, rfl⟩)
    go_ret
    exact ⟨ret_int HE.out.symm, rfl⟩
  · by_cases h2 : y < x
    · have HE : Hid (cmpI x y = 1) := by show (if x < y then (-1 : Int) else if y < x then 1 else 0) = 1; rw [if_neg h1, if_pos h2]
      go_enter Try.func67, Try.ntmps67
      go_wp2_with (go_at_call 72; refine (C.out _ _).mono ?_; rintro e w' ⟨rfl, rfl⟩)
      go_ret
      exact ⟨ret_int HE.out.symm, rfl⟩
    · have HE : Hid (cmpI x y = 0) := by show (if x < y then (-1 : Int) else if y < x then 1 else 0) = 0; rw [if_neg h1, if_neg h2]
      go_enter Try.func67, Try.ntmps67
      go_wp2_with (go_at_call 72; refine (C.out _ _).mono ?_; rintro e w' ⟨rfl, rfl⟩)
      go_ret
      exact ⟨ret_int HE.out.symm, rfl⟩
set_option maxRecDepth 100000 in
set_option maxHeartbeats 400000 in
theorem cmpS_any (x y : Int × Nat) (a0 a1 d0 d1 : Value) (w0 w : World) (h1 : ElS w0 x a0 a1) (h2 : ElS w0 y d0 d1) (_ : ∀ k, k < w0.heap.size → w.heap[k]? = w0.heap[k]?) (_ : w0.heap.size ≤ w.heap.size) (_ : SmS x) (_ : SmS y) :
    Calls Try.prog 57 #[.agg #[a0, a1], .agg #[d0, d1]] w fun e w' => e = .returned (.int .i64 (cmpT x y)) ∧ Below w.heap.size w w' := by
  obtain ⟨rfl, rfl⟩ := h1
  obtain ⟨rfl, rfl⟩ := h2
  have C := hide compareInt_any
  go_enter Try.func57, Try.ntmps57
  go_wp2_with (go_at_call 67; refine (C.out _ _ _).mono ?_; rintro e w' ⟨rfl, rfl⟩)
  go_ret
  exact ⟨rfl, ((Below.refl _ _).alloc (Nat.le_refl _) _).alloc (by simp) _⟩
end Go.Proofs.Ytcidgfdiacehmaa

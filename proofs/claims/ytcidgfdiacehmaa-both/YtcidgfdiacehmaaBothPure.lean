/- How many samples a join has. No program here. -/
import Derived.Test.YtcidgfdiacehmaaJoinPure
namespace Go.Proofs.Ytcidgfdiacehmaa

/-- The keys of a batch: labels and times. -/
def keysOf (bs : List Ser) : List (List Lab × Int) := bs.flatMap fun s => s.2.map fun x => (s.1, x.1)
def countS (bs : List Ser) : Nat := (keysOf bs).length
theorem keysOf_app (a b : List Ser) : keysOf (a ++ b) = keysOf a ++ keysOf b := by simp [keysOf]
theorem mem_keys {bs : List Ser} {l : List Lab} {t : Int} : (l, t) ∈ keysOf bs ↔ ∃ v, Holds bs l t v := by
  constructor
  · intro h
    obtain ⟨s, hs, hx⟩ := List.mem_flatMap.1 h
    obtain ⟨x, hm, e⟩ := List.mem_map.1 hx
    cases e
    exact ⟨x.2, s, hs, rfl, hm⟩
  · rintro ⟨v, s, hs, e, hx⟩
    exact List.mem_flatMap.2 ⟨s, hs, List.mem_map.2 ⟨(t, v), hx, by rw [e]⟩⟩
theorem keys_nodup {bs : List Ser} (h : BatchOk bs) : (keysOf bs).Nodup := by
  rw [batchOk_iff] at h
  obtain ⟨h1, h2⟩ := h
  induction bs with
  | nil => exact List.nodup_nil
  | cons s r ih =>
    obtain ⟨ha, hr⟩ := List.pairwise_cons.1 h2
    show ((s.2.map fun x => (s.1, x.1)) ++ keysOf r).Nodup
    rw [List.nodup_append]
    refine ⟨?_, ih (fun x hx => h1 x (List.mem_cons_of_mem _ hx)) hr, ?_⟩
    · have := ((samplesOk_iff _).1 (h1 s (List.mem_cons_self ..)).2).2
      refine List.pairwise_map.2 (this.imp fun {x y} hxy e => ?_)
      have hxy : x.1 < y.1 := hxy
      have e1 : x.1 = y.1 := (Prod.mk.inj e).2
      omega
    · intro x hx y hy e
      obtain ⟨p, _, e1⟩ := List.mem_map.1 hx
      obtain ⟨q, hq, hy⟩ := List.mem_flatMap.1 hy
      obtain ⟨u, _, e2⟩ := List.mem_map.1 hy
      have e3 : (s.1, p.1) = (q.1, u.1) := e1.trans (e.trans e2.symm)
      have e4 : s.1 = q.1 := (Prod.mk.inj e3).1
      have := ha q hq
      unfold LLt at this
      rw [e4, cmpLabs_self] at this
      cases this
section
variable {α : Type}
theorem union_len {a b j : List α} {p : α → Bool} (hp : ∀ x, p x = true ↔ x ∈ a) (ha : a.Nodup) (hb : b.Nodup) (hj : j.Nodup) (hm : ∀ x, x ∈ j ↔ x ∈ a ∨ x ∈ b) : j.length + b.countP p = a.length + b.length := by
  have hpm : j.Perm (a ++ b.filter fun x => !p x) := by
    rw [List.perm_ext_iff_of_nodup hj]
    · intro x
      rw [hm, List.mem_append, List.mem_filter, ← hp]
      cases p x <;> simp
    · rw [List.nodup_append]
      refine ⟨ha, hb.filter _, fun x hx y hy e => ?_⟩
      subst e
      have := (List.mem_filter.1 hy).2
      simp [(hp x).2 hx] at this
  rw [hpm.length_eq, List.length_append, ← List.countP_eq_length_filter]
  have := List.length_eq_countP_add_countP p (l := b)
  have e : b.countP (fun x => !p x) = b.countP (fun x => ¬ p x = true) := by
    congr 1; funext x; simp
  rw [e]; omega
theorem inter_len {a b : List α} {p q : α → Bool} (hp : ∀ x, p x = true ↔ x ∈ a) (hq : ∀ x, q x = true ↔ x ∈ b) (ha : a.Nodup) (hb : b.Nodup) : a.countP q = b.countP p := by
  have hpm : (a.filter q).Perm (b.filter p) := by
    rw [List.perm_ext_iff_of_nodup (ha.filter _) (hb.filter _)]
    intro x
    rw [List.mem_filter, List.mem_filter, hp, hq, and_comm]
  rw [List.countP_eq_length_filter, List.countP_eq_length_filter]; exact hpm.length_eq
end
/-- Is a key in a batch? -/
def isKey (a : List Ser) (k : List Lab × Int) : Bool := (keysOf a).any fun x => decide (x.1 = k.1) && decide (x.2 = k.2)
theorem isKey_iff (a : List Ser) (k : List Lab × Int) : isKey a k = true ↔ k ∈ keysOf a := by
  unfold isKey
  rw [List.any_eq_true]
  constructor
  · rintro ⟨x, hx, e⟩
    rw [Bool.and_eq_true, decide_eq_true_eq, decide_eq_true_eq] at e
    have : x = k := Prod.ext e.1 e.2
    rw [← this]; exact hx
  · exact fun h => ⟨k, h, by simp⟩
/-- Is a key in both? -/
def inBoth (a b : List Ser) (k : List Lab × Int) : Bool := isKey a k && isKey b k
theorem countP_mem {α : Type} {p q : α → Bool} {l : List α} (h : ∀ x ∈ l, p x = q x) : l.countP p = l.countP q := List.countP_congr fun x hx => by rw [h x hx]
theorem both_count {a b j : List Ser} (ha : BatchOk a) (hb : BatchOk b) (hj : IsJoin [a, b] j) : (keysOf (a ++ b)).countP (inBoth a b) = 2 * (keysOf b).countP (isKey a) ∧ countS j + (keysOf b).countP (isKey a) = countS a + countS b := by
  refine ⟨?_, union_len (isKey_iff a) (keys_nodup ha) (keys_nodup hb) (keys_nodup hj.ok) ?_⟩
  · rw [keysOf_app, List.countP_append]
    have e1 : (keysOf a).countP (inBoth a b) = (keysOf a).countP (isKey b) := countP_mem fun x hx => by simp [inBoth, (isKey_iff a x).2 hx]
    have e2 : (keysOf b).countP (inBoth a b) = (keysOf b).countP (isKey a) := countP_mem fun x hx => by simp [inBoth, (isKey_iff b x).2 hx]
    rw [e1, e2, inter_len (isKey_iff a) (isKey_iff b) (keys_nodup ha) (keys_nodup hb)]; omega
  · rintro ⟨l, t⟩
    rw [mem_keys, mem_keys, mem_keys]
    constructor
    · rintro ⟨v, h⟩
      obtain ⟨⟨bs, hbs, h⟩, _⟩ := (hj.holds l t v).1 h
      rcases List.mem_cons.1 hbs with rfl | hbs
      · exact .inl ⟨v, h⟩
      · rw [List.mem_singleton.1 hbs] at h; exact .inr ⟨v, h⟩
    · intro h
      have hx : ∃ bs ∈ [a, b], ∃ u, Holds bs l t u := by
        rcases h with ⟨v, h⟩ | ⟨v, h⟩
        · exact ⟨a, by simp, v, h⟩
        · exact ⟨b, by simp, v, h⟩
      obtain ⟨v, h1, h2⟩ := holds_max (bss := [a, b]) (fun bs hbs => by
        rcases List.mem_cons.1 hbs with rfl | hbs
        · exact ha
        · rw [List.mem_singleton.1 hbs]; exact hb) l t hx
      exact ⟨v, (hj.holds l t v).2 ⟨h1, h2⟩⟩
/-- What is at a key: bits, or none. -/
def AtOf (bs : List Ser) (l : List Lab) (t : Int) (r : Option Nat) : Prop :=
  match r with
  | some v => Holds bs l t v
  | none => ∀ v, ¬ Holds bs l t v
theorem AtOf.mem {bs : List Ser} {l : List Lab} {t : Int} {r : Option Nat} (h : AtOf bs l t r) : isKey bs (l, t) = r.isSome := by
  cases r with
  | none =>
    refine Bool.eq_false_iff.2 fun e => ?_
    obtain ⟨v, hv⟩ := mem_keys.1 ((isKey_iff _ _).1 e)
    exact h v hv
  | some v => exact (isKey_iff _ _).2 (mem_keys.2 ⟨v, h⟩)
/-- What the join has at a key of one of the two. -/
theorem both_at {a b j : List Ser} (ha : BatchOk a) (hb : BatchOk b) (hj : IsJoin [a, b] j) {l : List Lab} {t : Int} {u v w : Option Nat} (h1 : AtOf a l t u) (h2 : AtOf b l t v) (h3 : AtOf j l t w) (hk : (l, t) ∈ keysOf (a ++ b)) :
    ∃ m, w = some m ∧ (∀ x, u = some x → x ≤ m) ∧ (∀ x, v = some x → x ≤ m) ∧ (u = some m ∨ v = some m) := by
  have hab : ∀ bs ∈ [a, b], BatchOk bs := fun bs hbs => by
    rcases List.mem_cons.1 hbs with rfl | hbs
    · exact ha
    · rw [List.mem_singleton.1 hbs]; exact hb
  have hx : ∃ bs ∈ [a, b], ∃ u, Holds bs l t u := by
    rw [keysOf_app, List.mem_append, mem_keys, mem_keys] at hk
    rcases hk with ⟨v, h⟩ | ⟨v, h⟩
    · exact ⟨a, by simp, v, h⟩
    · exact ⟨b, by simp, v, h⟩
  obtain ⟨m, h4, h5⟩ := holds_max hab l t hx
  have hm : Holds j l t m := (hj.holds l t m).2 ⟨h4, h5⟩
  have hw : w = some m := by
    cases w with
    | none => exact absurd hm (h3 m)
    | some x => rw [Holds.unique hj.ok h3 hm]
  refine ⟨m, hw, fun x hx => ?_, fun x hx => ?_, ?_⟩
  · subst hx; exact h5 a (by simp) x h1
  · subst hx; exact h5 b (by simp) x h2
  · obtain ⟨bs, hbs, hh⟩ := h4
    rcases List.mem_cons.1 hbs with rfl | hbs
    · left
      cases u with
      | none => exact absurd hh (h1 m)
      | some x => rw [Holds.unique ha h1 hh]
    · rw [List.mem_singleton.1 hbs] at hh
      right
      cases v with
      | none => exact absurd hh (h2 m)
      | some x => rw [Holds.unique hb h2 hh]
end Go.Proofs.Ytcidgfdiacehmaa

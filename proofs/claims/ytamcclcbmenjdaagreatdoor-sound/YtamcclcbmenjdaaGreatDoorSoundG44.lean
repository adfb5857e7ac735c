/- 'choirkeep.Sound', for any list of steps (200 of them are done): whatever happens, each replica has nothing but what was written somewhere; and as long as it is up, what it once had. The first form's statement and its card: no condition beside the row's own. -/
import Derived.Test.YtamcclcbmenjdaaGreatDoorSoundG43
import Derived.Test.YtamcclcbmenjdaaGreatDoorSoundG24
import Derived.Test.YtamcclcbmenjdaaGreatDoorSoundG5
import Derived.Test.YtamcclcbmenjdaaGreatDoorSoundG32
import Derived.Test.YtamcclcbmenjdaaGreatDoorSoundG42
/- Sound's invariant. -/
namespace Go.Proofs.YtamcclcbmenjdaaGreatDoor
open Go.RowKit Go.Lib

/-- The blocks that turn while Sound runs. -/
def KA (cb bb : Nat) (av : Value) : List Nat := cb :: bb :: av.ownBlock.toList
/-- Where Sound stands: the cluster S; the row av with the series A; A' has been written; before: the lists bv, which read bl. -/
structure SInv (W w : World) (bb : Nat) (av : Value) (S : CS) (A A' : List Ser) (M : Nat) (bv : Nat → Value) (bl : Nat → List Ser) : Prop where
  clu : CluAt w W.heap.size S
  ok : CSOk M S
  snd : CSnd A' S
  all : AllOf (KA W.heap.size bb av) w (W.heap.size + 1) av A
  aok : ∀ s ∈ A', s.1.length ≤ 4 ∧ s.2.length ≤ 40 ∧ s.2.Pairwise SLt
  apart : Apart w W.heap.size (bb :: av.ownBlock.toList)
  bef : Blk w bb 57 [bv 0, bv 1, bv 2]
  safe : ∀ r, r < 3 → SafeK (KA W.heap.size bb av) w (bv r) (bl r)
  lim : ∀ r, r < 3 → LimitsOk (bl r)
  grow : ∀ r, r < 3 → (S.r r).up = true → Grows (bl r) (S.r r).bs
  tabs : Tabs w
  cbb : W.heap.size < bb
  nbb : av.ownBlock ≠ some bb
  below : Below W.heap.size W w
  two : 2 < W.heap.size
section
variable {W w w' : World} {bb M : Nat} {av : Value} {S : CS} {A A' : List Ser} {bv : Nat → Value} {bl : Nat → List Ser}
theorem SInv.row (h : SInv W w bb av S A A' M bv bl) {k : Nat} (hk : k ∈ av.ownBlock.toList) : W.heap.size < k ∧ k < w.heap.size := by
  have e : av.ownBlock = some k := by simpa using hk
  have := h.all.lt k e
  omega
theorem SInv.mem (h : SInv W w bb av S A A' M bv bl) {k : Nat} (hk : k ∈ KA W.heap.size bb av) : W.heap.size ≤ k ∧ k < w.heap.size := by
  rcases List.mem_cons.1 hk with rfl | hk
  · exact ⟨Nat.le_refl _, h.clu.way.lt⟩
  · rcases List.mem_cons.1 hk with rfl | hk
    · exact ⟨Nat.le_of_lt h.cbb, h.bef.lt⟩
    · have := h.row hk; omega
theorem SInv.cell (h : SInv W w bb av S A A' M bv bl) {r : Nat} (hr : r < 3) : w.cell? ⟨bb, r, none⟩ = some (bv r) := by
  have e : r = 0 ∨ r = 1 ∨ r = 2 := by omega
  rcases e with rfl | rfl | rfl
  · exact h.bef.cell (i := 0) rfl
  · exact h.bef.cell (i := 1) rfl
  · exact h.bef.cell (i := 2) rfl
theorem SInv.alien (h : SInv W w bb av S A A' M bv bl) : ∀ k ∈ bb :: av.ownBlock.toList, Alien w k := fun k hk cur e f hh => by
  rcases List.mem_cons.1 hk with rfl | hk
  · have h1 := h.bef
    unfold Blk at h1
    rw [h1] at hh
    cases hh
    decide
  · have ek : av.ownBlock = some k := by simpa using hk
    obtain ⟨vals, _, ho, _⟩ := h.all
    rcases ho.2 with ⟨rfl, _⟩ | ⟨g, cap, cur', rfl, _, hg, _⟩
    · cases ek
    · cases ek
      have hg' : w.heap[g]? = some (.cells cur' 38 (0, 0)) := hg
      have hh' : w.heap[g]? = some (.cells cur e f) := hh
      rw [hg'] at hh'
      cases hh'
      decide
theorem SInv.kept (h : SInv W w bb av S A A' M bv bl) (hb : Below w.heap.size w w') : SInv W w' bb av S A A' M bv bl := by
  have hst : Stay (KA W.heap.size bb av) w w' := Stay.below hb
  exact ⟨h.clu.below hb, h.ok, h.snd, h.all.step hst fun k e => hb.block k (h.all.lt k e).2, h.aok, h.apart.kept (hb.block _ h.clu.way.lt), h.bef.kept (hb.block _ h.bef.lt), fun r hr => (h.safe r hr).step hst fun k hk => .inl hk, h.lim, h.grow,
    h.tabs.below hb (by have := h.tabs.lt; omega), h.cbb, h.nbb, h.below.trans (hb.mono h.below.size), h.two⟩
/-- before[q] = x. -/
theorem SInv.store (h : SInv W w bb av S A A' M bv bl) {q : Nat} (hq : q < 3) {x : Value} {y : List Ser} (hx : SafeK (KA W.heap.size bb av) w x y) (hl : LimitsOk y) (hg : (S.r q).up = true → Grows y (S.r q).bs) :
    SInv W (w.setCell ⟨bb, q, none⟩ x) bb av S A A' M (fun r => if r = q then x else bv r) (fun r => if r = q then y else bl r) := by
  have hst : Stay (KA W.heap.size bb av) w (w.setCell ⟨bb, q, none⟩ x) := Stay.set w bb q x (by simp [KA])
  have hst2 : Stay (bb :: av.ownBlock.toList) w (w.setCell ⟨bb, q, none⟩ x) := Stay.set w bb q x (by simp)
  have hcb := h.cbb
  have hne : ∀ k, k ≠ bb → (w.setCell ⟨bb, q, none⟩ x).heap[k]? = w.heap[k]? := fun k hk => Below.heap_setCell w ⟨bb, q, none⟩ x k hk
  have hcn : W.heap.size ∉ bb :: av.ownBlock.toList := fun hm => by
    rcases List.mem_cons.1 hm with e | hm
    · omega
    · have := (h.row hm).1; omega
  refine ⟨h.clu.stay hst2 hcn h.alien h.apart, h.ok, h.snd, h.all.step hst fun k e => hne k (fun e2 => h.nbb (e2 ▸ e)), h.aok, h.apart.kept (hne _ (by omega)), ?_, fun r hr => ?_, fun r hr => ?_, fun r hr hu => ?_, ?_, h.cbb, h.nbb, h.below.setCell (p := ⟨bb, q, none⟩) (Nat.le_of_lt hcb) x, h.two⟩
  · have h1 := h.bef.set q x
    have e : q = 0 ∨ q = 1 ∨ q = 2 := by omega
    rcases e with rfl | rfl | rfl <;> exact h1
  · by_cases e : r = q
    · simp only [if_pos e]; exact hx.step hst fun k hk => .inl hk
    · simp only [if_neg e]; exact (h.safe r hr).step hst fun k hk => .inl hk
  · by_cases e : r = q
    · simp only [if_pos e]; exact hl
    · simp only [if_neg e]; exact h.lim r hr
  · by_cases e : r = q
    · subst e
      simp only [if_pos]
      exact hg hu
    · simp only [if_neg e]; exact h.grow r hr hu
  · exact hst.tabs h.tabs fun k hk => by have := (h.mem hk).1; have := h.two; omega
theorem step_b {S S' : CS} {b : List Ser} (h : StepOf S S' b) : b = [] ∨ (BatchOk b ∧ LimitsOk b ∧ InRange b) := by
  cases h using StepOf.elim with
  | write k n b r' hk hu hw h1 h2 h3 h4 =>
    by_cases e : n = 0
    · rw [if_pos e]; exact .inr ⟨h1, h2, h3⟩
    · rw [if_neg e]; exact .inl rfl
  | _ => exact .inl rfl
theorem Grows.trans {a b c : List Ser} (h : Grows a b) (g : Grows b c) : Grows a c := fun l t v hh => by
  obtain ⟨u, hu, h1⟩ := h l t v hh
  obtain ⟨z, hz, h2⟩ := g l t u h1
  exact ⟨z, Nat.le_trans hu hz, h2⟩
theorem Grows.nil (b : List Ser) : Grows [] b := fun l t v hh => by obtain ⟨s, hs, _⟩ := hh; cases hs
/-- A step was done. -/
theorem SInv.act (h : SInv W w bb av S A A M bv bl) (hd : ∀ r, r < 3 → (S.r r).up = false → bl r = []) {S' : CS} {b : List Ser} (hs : StepOf S S' b) (hc : CluAt w' W.heap.size S') (ht : Turn w w' W.heap.size 0 136) :
    SInv W w' bb av S' A (A ++ b) (M + 60011) bv bl := by
  have hst : Stay (KA W.heap.size bb av) w w' := Stay.turn ht (by simp [KA])
  have hcb := h.cbb
  refine ⟨hc, step_ok h.ok hs, snd_step h.ok h.snd hs, h.all.step hst fun k e => ht.block k (h.all.lt k e).2 (by have := (h.all.lt k e).1; omega), fun s hm => ?_, h.apart.turn ht fun k hk => ?_, h.bef.kept (ht.block _ h.bef.lt (by omega)), fun r hr => (h.safe r hr).step hst fun k hk => .inl hk, h.lim, fun r hr hu => ?_, ?_, h.cbb, h.nbb, h.below.trans ⟨ht.os, ht.tape, ht.output, ht.size, fun k hk => ht.block k (by have := h.below.size; omega) (by omega)⟩, h.two⟩
  · rcases List.mem_append.1 hm with hm | hm
    · exact h.aok s hm
    · rcases step_b hs with rfl | ⟨ok, lim, _⟩
      · cases hm
      · exact ⟨(limits_mem lim s hm).1, (limits_mem lim s hm).2, ((samplesOk_iff _).1 (((batchOk_iff _).1 ok).1 s hm).2).2⟩
  · exact (h.mem (List.mem_cons_of_mem _ hk)).2
  · by_cases hu0 : (S.r r).up = true
    · exact (h.grow r hr hu0).trans (step_grow h.ok hs hu0 hu)
    · rw [hd r hr (by simpa using hu0)]
      exact Grows.nil _
  · exact hst.tabs h.tabs fun k hk => by have := (h.mem hk).1; have := h.two; omega
/-- all = append(all, b...). -/
theorem SInv.app {b : List Ser} {vals us : List (Value × Value)} {av' : Value} (h : SInv W w bb av S A (A ++ b) M bv bl) (hl : vals.length = A.length) (hp : ∀ (i : Nat) (p : Value × Value) (x : Ser), vals[i]? = some p → A[i]? = some x → SafeP (KA W.heap.size bb av) w p x)
    (hu : Pairs w w.heap.size us b) (hq : ∀ (i : Nat) (p : Value × Value) (x : Ser), us[i]? = some p → b[i]? = some x → SafeP (KA W.heap.size bb av) w p x)
    (ho : w'.ownsRow (W.heap.size + 1) 38 2 av' (A.length + b.length) (serCells vals ++ serCells us)) (hg : w.grownBy w' av.ownBlock) (hh : Heir w av av') : SInv W w' bb av' S (A ++ b) (A ++ b) M bv bl := by
  have hrow : ∀ k, av.ownBlock = some k → k ∈ KA W.heap.size bb av := fun k e => by simp [KA, e]
  have hst : Stay (KA W.heap.size bb av) w w' := Stay.grown hg hrow
  have hst2 : Stay (bb :: av.ownBlock.toList) w w' := Stay.grown hg fun k e => by simp [e]
  have hcb := h.cbb
  have hcn : W.heap.size ∉ bb :: av.ownBlock.toList := fun hm => by
    rcases List.mem_cons.1 hm with e | hm
    · omega
    · have := (h.row hm).1; omega
  have hnew : ∀ k, av'.ownBlock = some k → av.ownBlock = some k ∨ w.heap.size ≤ k := fun k e => by
    rcases hh with h1 | ⟨q, h1, h3⟩
    · exact .inl (h1 ▸ e)
    · rw [h1] at e; cases e; exact .inr h3
  have hK : ∀ k ∈ KA W.heap.size bb av', k ∈ KA W.heap.size bb av ∨ w.heap.size ≤ k := fun k hk => by
    rcases List.mem_cons.1 hk with rfl | hk
    · exact .inl (by simp [KA])
    · rcases List.mem_cons.1 hk with rfl | hk
      · exact .inl (by simp [KA])
      · have e : av'.ownBlock = some k := by simpa using hk
        exact (hnew k e).imp (hrow k) id
  have hblk : ∀ k, k < w.heap.size → av.ownBlock ≠ some k → w'.heap[k]? = w.heap[k]? := fun k h1 h3 => hg.block k h1 fun e => h3 e.symm
  have hcbw : w'.heap[W.heap.size]? = w.heap[W.heap.size]? := hblk _ h.clu.way.lt fun e => by have := (h.all.lt _ e).1; omega
  refine ⟨h.clu.stay hst2 hcn h.alien h.apart, h.ok, h.snd, AllOf.app hl hrow hp hu hq ho hg hK (fun k e => by simp [KA, e]), h.aok, fun j v k hj hc hk hm => ?_, h.bef.kept (hblk _ h.bef.lt h.nbb), fun r hr => (h.safe r hr).step hst hK, h.lim, h.grow, hst.tabs h.tabs fun k hk => by have := (h.mem hk).1; have := h.two; omega, h.cbb, fun e => ?_, h.below.trans ⟨hg.os, hg.tape, hg.output, hg.size, fun k hk => hblk k (by have := h.below.size; omega) fun e => by have := (h.all.lt _ e).1; omega⟩, h.two⟩
  · have hc' : w.cell? ⟨W.heap.size, j * 5 + 1, none⟩ = some v := (World.cell?_of_block (a := ⟨W.heap.size, j * 5 + 1, none⟩) hcbw).symm.trans hc
    have h3 := h.clu.lt1 hj hc' hk
    have h4 := h.apart j v k hj hc' hk
    rcases List.mem_cons.1 hm with rfl | hm
    · exact h4 (by simp)
    · have e : av'.ownBlock = some k := by simpa using hm
      rcases hnew k e with e2 | e2
      · exact h4 (by simp [e2])
      · omega
  · rcases hnew bb e with e2 | e2
    · exact h.nbb e2
    · have := h.bef.lt; omega
end
end Go.Proofs.YtamcclcbmenjdaaGreatDoor

/- How many samples a join has. No program here. -/
namespace Go.Proofs.YtamcclcbmenjdaaGreatDoor

/-- The keys of a batch: labels and times. -/
def keysOf (bs : List Ser) : List (List Lab × Int) := bs.flatMap fun s => s.2.map fun x => (s.1, x.1)
def countS (bs : List Ser) : Nat := (keysOf bs).length
theorem keysOf_app (a b : List Ser) : keysOf (a ++ b) = keysOf a ++ keysOf b := by simp [keysOf]
theorem mem_keys {bs : List Ser} {l : List Lab} {t : Int} : (l, t) ∈ keysOf bs ↔ ∃ v, Holds bs l t v := by
  constructor
  · intro h
    obtain ⟨s, hs, hx⟩ := List.mem_flatMap.1 h
    obtain ⟨x, hm, e⟩ := List.mem_map.1 hx
    cases e
    exact ⟨x.2, s, hs, rfl, hm⟩
  · rintro ⟨v, s, hs, e, hx⟩
    exact List.mem_flatMap.2 ⟨s, hs, List.mem_map.2 ⟨(t, v), hx, by rw [e]⟩⟩
theorem keys_nodup {bs : List Ser} (h : BatchOk bs) : (keysOf bs).Nodup := by
  rw [batchOk_iff] at h
  obtain ⟨h1, h2⟩ := h
  induction bs with
  | nil => exact List.nodup_nil
  | cons s r ih =>
    obtain ⟨ha, hr⟩ := List.pairwise_cons.1 h2
    show ((s.2.map fun x => (s.1, x.1)) ++ keysOf r).Nodup
    rw [List.nodup_append]
    refine ⟨?_, ih (fun x hx => h1 x (List.mem_cons_of_mem _ hx)) hr, ?_⟩
    · have := ((samplesOk_iff _).1 (h1 s (List.mem_cons_self ..)).2).2
      refine List.pairwise_map.2 (this.imp fun {x y} hxy e => ?_)
      have hxy : x.1 < y.1 := hxy
      have e1 : x.1 = y.1 := (Prod.mk.inj e).2
      omega
    · intro x hx y hy e
      obtain ⟨p, _, e1⟩ := List.mem_map.1 hx
      obtain ⟨q, hq, hy⟩ := List.mem_flatMap.1 hy
      obtain ⟨u, _, e2⟩ := List.mem_map.1 hy
      have e3 : (s.1, p.1) = (q.1, u.1) := e1.trans (e.trans e2.symm)
      have e4 : s.1 = q.1 := (Prod.mk.inj e3).1
      have := ha q hq
      unfold LLt at this
      rw [e4, cmpLabs_self] at this
      cases this
section
variable {α : Type}
theorem union_len {a b j : List α} {p : α → Bool} (hp : ∀ x, p x = true ↔ x ∈ a) (ha : a.Nodup) (hb : b.Nodup) (hj : j.Nodup) (hm : ∀ x, x ∈ j ↔ x ∈ a ∨ x ∈ b) : j.length + b.countP p = a.length + b.length := by
  have hpm : j.Perm (a ++ b.filter fun x => !p x) := by
    rw [List.perm_ext_iff_of_nodup hj]
    · intro x
      rw [hm, List.mem_append, List.mem_filter, ← hp]
      cases p x <;> simp
    · rw [List.nodup_append]
      refine ⟨ha, hb.filter _, fun x hx y hy e => ?_⟩
      subst e
      have := (List.mem_filter.1 hy).2
      simp [(hp x).2 hx] at this
  rw [hpm.length_eq, List.length_append, ← List.countP_eq_length_filter]
  have := List.length_eq_countP_add_countP p (l := b)
  have e : b.countP (fun x => !p x) = b.countP (fun x => ¬ p x = true) := by
    congr 1; funext x; simp
  rw [e]; omega
theorem inter_len {a b : List α} {p q : α → Bool} (hp : ∀ x, p x = true ↔ x ∈ a) (hq : ∀ x, q x = true ↔ x ∈ b) (ha : a.Nodup) (hb : b.Nodup) : a.countP q = b.countP p := by
  have hpm : (a.filter q).Perm (b.filter p) := by
    rw [List.perm_ext_iff_of_nodup (ha.filter _) (hb.filter _)]
    intro x
    rw [List.mem_filter, List.mem_filter, hp, hq, and_comm]
  rw [List.countP_eq_length_filter, List.countP_eq_length_filter]; exact hpm.length_eq
end
/-- Is a key in a batch? -/
def isKey (a : List Ser) (k : List Lab × Int) : Bool := (keysOf a).any fun x => decide (x.1 = k.1) && decide (x.2 = k.2)
theorem isKey_iff (a : List Ser) (k : List Lab × Int) : isKey a k = true ↔ k ∈ keysOf a := by
  unfold isKey
  rw [List.any_eq_true]
  constructor
  · rintro ⟨x, hx, e⟩
    rw [Bool.and_eq_true, decide_eq_true_eq, decide_eq_true_eq] at e
    have : x = k := Prod.ext e.1 e.2
    rw [← this]; exact hx
  · exact fun h => ⟨k, h, by simp⟩
/-- Is a key in both? -/
def inBoth (a b : List Ser) (k : List Lab × Int) : Bool := isKey a k && isKey b k
theorem countP_mem {α : Type} {p q : α → Bool} {l : List α} (h : ∀ x ∈ l, p x = q x) : l.countP p = l.countP q := List.countP_congr fun x hx => by rw [h x hx]
theorem both_count {a b j : List Ser} (ha : BatchOk a) (hb : BatchOk b) (hj : IsJoin [a, b] j) : (keysOf (a ++ b)).countP (inBoth a b) = 2 * (keysOf b).countP (isKey a) ∧ countS j + (keysOf b).countP (isKey a) = countS a + countS b := by
  refine ⟨?_, union_len (isKey_iff a) (keys_nodup ha) (keys_nodup hb) (keys_nodup hj.ok) ?_⟩
  · rw [keysOf_app, List.countP_append]
    have e1 : (keysOf a).countP (inBoth a b) = (keysOf a).countP (isKey b) := countP_mem fun x hx => by simp [inBoth, (isKey_iff a x).2 hx]
    have e2 : (keysOf b).countP (inBoth a b) = (keysOf b).countP (isKey a) := countP_mem fun x hx => by simp [inBoth, (isKey_iff b x).2 hx]
    rw [e1, e2, inter_len (isKey_iff a) (isKey_iff b) (keys_nodup ha) (keys_nodup hb)]; omega
  · rintro ⟨l, t⟩
    rw [mem_keys, mem_keys, mem_keys]
    constructor
    · rintro ⟨v, h⟩
      obtain ⟨⟨bs, hbs, h⟩, _⟩ := (hj.holds l t v).1 h
      rcases List.mem_cons.1 hbs with rfl | hbs
      · exact .inl ⟨v, h⟩
      · rw [List.mem_singleton.1 hbs] at h; exact .inr ⟨v, h⟩
    · intro h
      have hx : ∃ bs ∈ [a, b], ∃ u, Holds bs l t u := by
        rcases h with ⟨v, h⟩ | ⟨v, h⟩
        · exact ⟨a, by simp, v, h⟩
        · exact ⟨b, by simp, v, h⟩
      obtain ⟨v, h1, h2⟩ := holds_max (bss := [a, b]) (fun bs hbs => by
        rcases List.mem_cons.1 hbs with rfl | hbs
        · exact ha
        · rw [List.mem_singleton.1 hbs]; exact hb) l t hx
      exact ⟨v, (hj.holds l t v).2 ⟨h1, h2⟩⟩
/-- What is at a key: bits, or none. -/
def AtOf (bs : List Ser) (l : List Lab) (t : Int) (r : Option Nat) : Prop :=
  match r with
  | some v => Holds bs l t v
  | none => ∀ v, ¬ Holds bs l t v
theorem AtOf.mem {bs : List Ser} {l : List Lab} {t : Int} {r : Option Nat} (h : AtOf bs l t r) : isKey bs (l, t) = r.isSome := by
  cases r with
  | none =>
    refine Bool.eq_false_iff.2 fun e => ?_
    obtain ⟨v, hv⟩ := mem_keys.1 ((isKey_iff _ _).1 e)
    exact h v hv
  | some v => exact (isKey_iff _ _).2 (mem_keys.2 ⟨v, h⟩)
/-- What the join has at a key of one of the two. -/
theorem both_at {a b j : List Ser} (ha : BatchOk a) (hb : BatchOk b) (hj : IsJoin [a, b] j) {l : List Lab} {t : Int} {u v w : Option Nat} (h1 : AtOf a l t u) (h2 : AtOf b l t v) (h3 : AtOf j l t w) (hk : (l, t) ∈ keysOf (a ++ b)) :
    ∃ m, w = some m ∧ (∀ x, u = some x → x ≤ m) ∧ (∀ x, v = some x → x ≤ m) ∧ (u = some m ∨ v = some m) := by
  have hab : ∀ bs ∈ [a, b], BatchOk bs := fun bs hbs => by
    rcases List.mem_cons.1 hbs with rfl | hbs
    · exact ha
    · rw [List.mem_singleton.1 hbs]; exact hb
  have hx : ∃ bs ∈ [a, b], ∃ u, Holds bs l t u := by
    rw [keysOf_app, List.mem_append, mem_keys, mem_keys] at hk
    rcases hk with ⟨v, h⟩ | ⟨v, h⟩
    · exact ⟨a, by simp, v, h⟩
    · exact ⟨b, by simp, v, h⟩
  obtain ⟨m, h4, h5⟩ := holds_max hab l t hx
  have hm : Holds j l t m := (hj.holds l t m).2 ⟨h4, h5⟩
  have hw : w = some m := by
    cases w with
    | none => exact absurd hm (h3 m)
    | some x => rw [Holds.unique hj.ok h3 hm]
  refine ⟨m, hw, fun x hx => ?_, fun x hx => ?_, ?_⟩
  · subst hx; exact h5 a (by simp) x h1
  · subst hx; exact h5 b (by simp) x h2
  · obtain ⟨bs, hbs, hh⟩ := h4
    rcases List.mem_cons.1 hbs with rfl | hbs
    · left
      cases u with
      | none => exact absurd hh (h1 m)
      | some x => rw [Holds.unique ha h1 hh]
    · rw [List.mem_singleton.1 hbs] at hh
      right
      cases v with
      | none => exact absurd hh (h2 m)
      | some x => rw [Holds.unique hb h2 hh]
end Go.Proofs.YtamcclcbmenjdaaGreatDoor

/- choirkeep's at. -/
namespace Go.Proofs.YtamcclcbmenjdaaGreatDoor
open Go.RowKit Go.Lib

theorem batch_one {w : World} {B g : Nat} {lv : Value} {l : List Lab} (hc0 : w.cell? ⟨g, 0, none⟩ = some lv) (hc1 : w.cell? ⟨g, 1, none⟩ = some (.slice none 0 0)) (hg : g < B) (hl : LabelsAt w B lv l) : BatchAt w B (.slice (some ⟨g, 0, none⟩) 1 1) [(l, [])] :=
  ⟨_, 1, rfl, Nat.le_refl _, .inr ⟨g, 0, rfl, hg, fun i x hx => by
    match i, hx with
    | 0, hx =>
      have : x = (l, []) := by simpa using hx.symm
      subst this
      exact ⟨lv, _, hc0, hc1, hl, none, 0, rfl, Nat.le_refl _, (fun x h => by cases h), .inl rfl⟩
    | i + 1, hx => simp at hx⟩⟩
theorem small_one {l : List Lab} (h : l.length ≤ 10000000000000) : Small [(l, [])] :=
  ⟨by simp, fun s hs => by rw [List.mem_singleton.1 hs]; exact h, fun s hs => by rw [List.mem_singleton.1 hs]; simp⟩
set_option maxRecDepth 100000 in
set_option maxHeartbeats 1000000 in
theorem kat_any (W : World) (v lv : Value) (bs : List Ser) (l : List Lab) (t : Int) (hb : BatchAt W W.heap.size v bs) (hl : LabelsAt W W.heap.size lv l) (hsm : Small bs) (hll : l.length ≤ 10000000000000) :
    Calls Tryz.prog 58 #[v, lv, .int .i64 t] W fun e w' => ∃ r, AtOf bs l t r ∧ e = .returned (.tuple #[.int .u64 ((r.getD 0 : Nat) : Int), .bool r.isSome]) ∧ Below W.heap.size W w' := by
  obtain ⟨va, vc, rfl, _⟩ := id hb
  obtain ⟨la, lc, rfl, _⟩ := id hl
  have HB := hide hb
  have HL := hide hl
  have HSm := hide hsm
  have hbl := hsm.series
  clear hb hl hsm
  go_enter Tryz.func58, Tryz.ntmps58
  go_wp2
  go_loopw [8, 9, 10] (fun i _ _ wr => ∃ m : Nat, m ≤ bs.length ∧ i = .int .i64 m ∧ Hid (∀ s ∈ bs.take m, s.1 = l → ∀ v, (t, v) ∉ s.2) ∧ Hid (Below W.heap.size W wr)) (fun i _ _ _ => bs.length - (intOf i).toNat)
  case atStart => exact ⟨0, Nat.zero_le _, rfl, fun s h => by simp at h, Below.refl _ _⟩
  case round =>
    obtain ⟨m, hm, rfl, HNo, HW⟩ := hrel
    by_cases hlt : m < bs.length
    · obtain ⟨⟨ll, sl⟩, hx⟩ : ∃ x, bs[m]? = some x := ⟨_, List.getElem?_eq_getElem hlt⟩
      have hBr := HB.out.below HW.out (Nat.le_refl _)
      have hLr := HL.out.below HW.out (Nat.le_refl _)
      obtain ⟨b1, o1, la1, lc1, sa1, sc1, rfl, hb1, p1, p2, L1, S1⟩ := hBr.get hx
      have hs0 := HW.out.size
      have hl1 := HSm.out.labels _ (List.mem_of_getElem? hx)
      have hs1 := HSm.out.samples _ (List.mem_of_getElem? hx)
      simp only at p1 p2 L1 S1 hl1 hs1
      have C := hide (same_iff (.slice (some ⟨wr.heap.size, 0, none⟩) 1 1) (.slice (some ⟨wr.heap.size + 1, 0, none⟩) 1 1) [(ll, [])] [(l, [])] ((wr.alloc (.cells #[.slice la1 ll.length lc1, .slice none 0 0] 38)).alloc (.cells #[.slice la l.length lc, .slice none 0 0] 38))
        (batch_one (lv := .slice la1 ll.length lc1) ((World.cell?_alloc_old _ _ _ (by simp)).trans (World.cell?_alloc_new _ _ _ 0)) ((World.cell?_alloc_old _ _ _ (by simp)).trans (World.cell?_alloc_new _ _ _ 1)) (by simp; omega) ((L1.kept fun k hk => (heap_alloc_old _ _ (by simp; omega)).trans (heap_alloc_old _ _ (by omega))).wider (by simp; omega)))
        (batch_one (lv := .slice la l.length lc) (by rw [World.cell?_alloc_at _ _ _ _ (by simp)]; rfl) (by rw [World.cell?_alloc_at _ _ _ _ (by simp)]; rfl) (by simp) ((hLr.kept fun k hk => (heap_alloc_old _ _ (by simp; omega)).trans (heap_alloc_old _ _ (by omega))).wider (by simp; omega)))
        (small_one hl1) (small_one hll))
      have HS := hide S1
      have HX := hide hx
      clear hBr hLr L1 S1 hx
      go_wp2_with fail
      refine C.out.mono ?_
      rintro e w2 ⟨⟨r, rfl, hr⟩, hb2⟩
      have HB2 : Hid (Below wr.heap.size wr w2) := (((Below.refl wr.heap.size wr).alloc (Nat.le_refl _) _).alloc (by simp) _).trans (hb2.mono (by simp; omega))
      have HW2 : Hid (Below W.heap.size W w2) := HW.out.trans (HB2.out.mono hs0)
      have c1 := (HB2.out.cell (p := ⟨b1, o1 + m * 2, none⟩) (by show b1 < _; omega)).trans p1
      have c2 := (HB2.out.cell (p := ⟨b1, o1 + m * 2 + 1, none⟩) (by show b1 < _; omega)).trans p2
      have HR : Hid (r = true ↔ ll = l) := hr.trans ⟨fun e => by simpa using e, fun e => by rw [e]⟩
      have HS2 := hide (HS.out.below HB2.out hs0)
      clear C HB2 HW HS hb2 hr p1 p2
      cases r with
      | true =>
        have hll2 : ll = l := HR.out.1 rfl
        go_wp2
        go_loopw [10] (fun i w3 => ∃ k : Nat, k ≤ sl.length ∧ i = .int .i64 k ∧ w3 = w2 ∧ Hid (∀ y ∈ sl.take k, y.1 ≠ t)) (fun i _ => sl.length - (intOf i).toNat)
        case atStart => exact ⟨0, Nat.zero_le _, rfl, rfl, fun y h => by simp at h⟩
        case round =>
          obtain ⟨k, hk, rfl, rfl, HK⟩ := hrel
          by_cases hkl : k < sl.length
          · obtain ⟨⟨tx, bx⟩, hy⟩ : ∃ x, sl[k]? = some x := ⟨_, List.getElem?_eq_getElem hkl⟩
            obtain ⟨e1, f1, rfl, u1, u2⟩ := samGet HS2.out hy
            simp only at u1 u2
            by_cases ht : tx = t
            · subst ht
              have HA : Hid (AtOf bs l tx (some bx)) := ⟨(ll, sl), List.mem_of_getElem? HX.out, hll2, List.mem_of_getElem? hy⟩
              clear hy
              go_wp2
              go_ret2
              exact ⟨some bx, HA.out, by trivial, HW2.out⟩
            · have HK2 : Hid (∀ y ∈ sl.take (k + 1), y.1 ≠ t) := fun y hyt => by
                rw [List.take_add_one, hy] at hyt
                rcases List.mem_append.1 hyt with h | h
                · exact HK.out y h
                · have : y = (tx, bx) := by simpa using h
                  rw [this]; exact ht
              clear hy HK
              go_wp2
              go_roundw
              case rel => exact ⟨k + 1, by omega, by go_num, by trivial, HK2.out⟩
              case measure => simp [intOf]; omega
          · have HN2 : Hid (∀ s ∈ bs.take (m + 1), s.1 = l → ∀ v, (t, v) ∉ s.2) := fun s hs e v hv => by
              rw [List.take_add_one, HX.out] at hs
              rcases List.mem_append.1 hs with h | h
              · exact HNo.out s h e v hv
              · have : s = (ll, sl) := by simpa using h
                subst this
                have h2 : (t, v) ∈ sl.take k := by rw [List.take_of_length_le (by omega)]; exact hv
                exact HK.out _ h2 rfl
            clear HK
            go_wp2
            go_roundw
            case rel => exact ⟨m + 1, by omega, by go_num, HN2.out, HW2.out⟩
            case measure => simp [intOf]; omega
      | false =>
        have HN2 : Hid (∀ s ∈ bs.take (m + 1), s.1 = l → ∀ v, (t, v) ∉ s.2) := fun s hs e v hv => by
          rw [List.take_add_one, HX.out] at hs
          rcases List.mem_append.1 hs with h | h
          · exact HNo.out s h e v hv
          · have : s = (ll, sl) := by simpa using h
            subst this
            exact absurd (HR.out.2 e) (by decide)
        go_wp2
        go_loopw [10] (fun i w3 => i = .int .i64 0 ∧ w3 = w2) (fun _ _ => 0)
        case atStart => exact ⟨rfl, rfl⟩
        case round =>
          obtain ⟨rfl, rfl⟩ := hrel
          go_wp2
          go_roundw
          case rel => exact ⟨m + 1, by omega, by go_num, HN2.out, HW2.out⟩
          case measure => simp [intOf]; omega
    · have HA : Hid (AtOf bs l t none) := fun v ⟨s, hs, e, hv⟩ => HNo.out s (by rw [List.take_of_length_le (by omega)]; exact hs) e v hv
      go_wp2
      go_ret2
      exact ⟨none, HA.out, rfl, HW.out⟩
end Go.Proofs.YtamcclcbmenjdaaGreatDoor

/- choirkeep's within: is all of one list in another? -/
namespace Go.Proofs.YtamcclcbmenjdaaGreatDoor
open Go.RowKit Go.Lib

theorem within_at {a b : List Ser} (hb : BatchOk b) (hg : Grows a b) {s : Ser} {t : Int} {v : Nat} {r : Option Nat} (hs : s ∈ a) (hx : (t, v) ∈ s.2) (h : AtOf b s.1 t r) : ∃ u, r = some u ∧ v ≤ u := by
  obtain ⟨u, hu, hh⟩ := hg s.1 t v ⟨s, hs, rfl, hx⟩
  cases r with
  | none => exact absurd hh (h u)
  | some y => exact ⟨y, rfl, by rw [Holds.unique hb h hh]; exact hu⟩
set_option maxRecDepth 100000 in
set_option maxHeartbeats 1000000 in
theorem within_any (W : World) (va vb : Value) (a b : List Ser) (hA : BatchAt W W.heap.size va a) (hB : BatchAt W W.heap.size vb b) (sma : Small a) (smb : Small b) (ob : BatchOk b) (hg : Grows a b) :
    Calls Tryz.prog 20 #[va, vb] W fun e w' => e = .returned (.bool true) ∧ Below W.heap.size W w' := by
  obtain ⟨aa, ac, rfl, -⟩ := id hA
  obtain ⟨ba, bc, rfl, -⟩ := id hB
  have HA := hide hA
  have HB := hide hB
  have HSa := hide sma
  have HSb := hide smb
  have HG : Hid (∀ (s : Ser) (t : Int) (v : Nat) (r : Option Nat), s ∈ a → (t, v) ∈ s.2 → AtOf b s.1 t r → ∃ u, r = some u ∧ v ≤ u) := fun s t v r h1 h2 h3 => within_at ob hg h1 h2 h3
  have hal := sma.series
  clear hA hB sma smb ob hg
  go_enter Tryz.func20, Tryz.ntmps20
  go_wp2
  go_loopw [5, 6, 7, 8] (fun i _ _ _ wr => ∃ m : Nat, m ≤ a.length ∧ i = .int .i64 m ∧ Hid (Below W.heap.size W wr)) (fun i _ _ _ _ => a.length - (intOf i).toNat)
  case atStart => exact ⟨0, Nat.zero_le _, rfl, Below.refl _ _⟩
  case round =>
    obtain ⟨m, hm, rfl, HW⟩ := hrel
    by_cases hlt : m < a.length
    · obtain ⟨⟨ll, sl⟩, hx⟩ : ∃ x, a[m]? = some x := ⟨_, List.getElem?_eq_getElem hlt⟩
      have hl1 := HSa.out.labels _ (List.mem_of_getElem? hx)
      have hs1 := HSa.out.samples _ (List.mem_of_getElem? hx)
      obtain ⟨lb, lo, la1, lc1, sa1, sc1, rfl, hlb1, p1, p2, L1, S1⟩ := HA.out.get hx
      simp only at p1 p2 L1 S1 hl1 hs1
      have HL1 := hide L1
      have HS1 := hide S1
      have HX := hide hx
      clear hx L1 S1
      go_wp2
      go_loopw [6, 7, 8] (fun k _ _ wr => ∃ q : Nat, q ≤ sl.length ∧ k = .int .i64 q ∧ Hid (Below W.heap.size W wr)) (fun k _ _ _ => sl.length - (intOf k).toNat)
      case atStart => exact ⟨0, Nat.zero_le _, rfl, HW.out⟩
      case round =>
        clear HW
        obtain ⟨q, hq, rfl, HW⟩ := hrel
        have hsw := HW.out.size
        have d1 := (HW.out.cell (p := ⟨lb, lo + m * 2, none⟩) hlb1).trans p1
        have d2 := (HW.out.cell (p := ⟨lb, lo + m * 2 + 1, none⟩) hlb1).trans p2
        by_cases hql : q < sl.length
        · obtain ⟨⟨tx, bx⟩, hy⟩ : ∃ x, sl[q]? = some x := ⟨_, List.getElem?_eq_getElem hql⟩
          obtain ⟨e1, f1, rfl, u1, u2⟩ := samGet (HS1.out.below HW.out (Nat.le_refl _)) hy
          simp only at u1 u2
          have hlbw : lb < wr.heap.size := Nat.lt_of_lt_of_le hlb1 hsw
          have he1w : e1 < wr.heap.size := World.block_lt_of_cell? wr _ u1
          have HAt : Hid (∀ r, AtOf b ll tx r → ∃ u, r = some u ∧ bx ≤ u) := fun r h => HG.out (ll, sl) tx bx r (List.mem_of_getElem? HX.out) (List.mem_of_getElem? hy) h
          have CA : Hid (∀ W2, Below wr.heap.size wr W2 → Calls Tryz.prog 58 #[.slice ba b.length bc, .slice la1 ll.length lc1, .int .i64 tx] W2 fun e w' => ∃ r, AtOf b ll tx r ∧ e = .returned (.tuple #[.int .u64 ((r.getD 0 : Nat) : Int), .bool r.isSome]) ∧ Below wr.heap.size wr w') := fun W2 h2 => by
            have h5 := HW.out.trans (h2.mono hsw)
            exact (kat_any W2 _ _ b ll tx ((HB.out.below h5 (Nat.le_refl _)).wider h5.size) ((HL1.out.below h5 (Nat.le_refl _)).wider h5.size) HSb.out hl1).mono fun e w' ⟨r, h1, h3, h4⟩ => ⟨r, h1, h3, h2.trans (h4.mono h2.size)⟩
          clear hy
          go_wp2
          as_aux_lemma =>
            go_region_held3 (fun w' => w'.cell? ⟨lb, lo + m * 2, none⟩ = some (.slice la1 ll.length lc1) ∧ w'.cell? ⟨lb, lo + m * 2 + 1, none⟩ = some (.slice (some ⟨e1, f1, none⟩) sl.length sc1) ∧ w'.cell? ⟨e1, f1 + q * 2, none⟩ = some (.int .i64 tx)) (go_keep) (first | (go_at_call 58; refine (CA.out _ (by first | exact (Below.refl _ _).drew | exact Below.refl _ _)).mono ?_; rintro e w6 ⟨u, hu, rfl, hb6⟩; have x1 := (hb6.cell (p := ⟨lb, lo + m * 2, none⟩) hlbw).trans d1; have x2 := (hb6.cell (p := ⟨lb, lo + m * 2 + 1, none⟩) hlbw).trans d2; have x3 := (hb6.cell (p := ⟨e1, f1 + q * 2, none⟩) he1w).trans u1) | fail)
            all_goals
              obtain ⟨y, rfl, hby⟩ := HAt.out u hu
              have HW6 : Hid (Below W.heap.size W w6) := HW.out.trans (hb6.mono hsw)
              have x4 := (hb6.cell (p := ⟨e1, f1 + q * 2 + 1, none⟩) he1w).trans u2
              have hbi : ¬ (y : Int) < (bx : Int) := by omega
              have hbd : decide ((y : Int) < (bx : Int)) = false := decide_eq_false hbi
              clear hu hb6 HAt CA HW d1 d2 u1 u2 hby
              go_wp2
              go_roundw
              case rel => exact ⟨q + 1, by omega, by go_num, HW6.out⟩
              case measure => simp [intOf]; omega
        · go_wp2
          go_roundw
          case rel => exact ⟨m + 1, by omega, by go_num, HW.out⟩
          case measure => simp [intOf]; omega
    · go_wp2
      go_ret
      exact ⟨rfl, HW.out⟩
end Go.Proofs.YtamcclcbmenjdaaGreatDoor

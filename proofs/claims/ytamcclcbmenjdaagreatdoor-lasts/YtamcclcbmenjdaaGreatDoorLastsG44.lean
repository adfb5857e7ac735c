/- 'choirkeep.Lasts', for any two lists of steps (100 of each are done) and any numbers: what a replica had when it was synced or compacted it has behind any crash and restart, whatever came between; and a second restart changes nothing. The first form's statement and its card: no condition beside the row's own. -/
import Derived.Test.YtamcclcbmenjdaaGreatDoorLastsG42
import Derived.Test.YtamcclcbmenjdaaGreatDoorLastsG43
import Derived.Test.YtamcclcbmenjdaaGreatDoorLastsG24
import Derived.Test.YtamcclcbmenjdaaGreatDoorLastsG5
import Derived.Test.YtamcclcbmenjdaaGreatDoorLastsG32
/- What a replica had when it was synced it has behind any crash and restart: pure. -/
namespace Go.Proofs.YtamcclcbmenjdaaGreatDoor
open Go.RowKit Go.Lib

/-- Each sample of B is in one of css, with as many bits or more. -/
def Cover (css : List (List Ser)) (B : List Ser) : Prop := ∀ l t v, Holds B l t v → ∃ b ∈ css, ∃ u, v ≤ u ∧ Holds b l t u
theorem Cover.nil (css : List (List Ser)) : Cover css [] := fun l t v hh => by obtain ⟨s, hs, _⟩ := hh; cases hs
theorem rowB_cons (b : List Ser) (r : List (List Ser)) : rowB (b :: r) = frameOf (payload b) ++ rowB r := by simp [rowB]
theorem rowB_prefix {css dss : List (List Ser)} (h : css <+: dss) : rowB css <+: rowB dss := by
  obtain ⟨t, rfl⟩ := h
  exact ⟨rowB t, by simp [rowB]⟩
theorem row_ge : ∀ (css : List (List Ser)), (∀ b ∈ css, BatchOk b ∧ LimitsOk b ∧ InRange b) → ∀ (s : List UInt8), rowB css <+: s → ∀ {dss : List (List Ser)} {n : Nat}, RowOf s dss n → css <+: dss
  | [], _, _, _, _, _, _ => List.nil_prefix
  | b :: r, hok, s, hp, dss, n, hr => by
    obtain ⟨h1, h2, h3⟩ := hok b (by simp)
    have hf := frame_is b h1 h2 h3
    rw [rowB_cons] at hp
    obtain ⟨s', rfl⟩ : frameOf (payload b) <+: s := (List.prefix_append _ _).trans hp
    have hff := ff_frame (rest := s') hf.1.opens
    have hp' : rowB r <+: s' := (List.prefix_append_right_inj _).1 hp
    cases hr using RowOf.two with
    | stop h => rw [hff] at h; exact absurd hf.1 h
    | next cs m h hr' =>
      rw [hff, List.drop_left] at hr'
      obtain ⟨t, ht⟩ := row_ge r (fun x hx => hok x (by simp [hx])) s' hp' hr'
      rw [hff, hf.2]
      exact ⟨t, by rw [← ht]; rfl⟩
/-- A replica's log: the frames of bss; those of css are synced; they cover B. -/
structure Logs (bss css : List (List Ser)) (B : List Ser) (r : RS) : Prop where
  ok : ∀ b ∈ bss, BatchOk b ∧ LimitsOk b ∧ InRange b
  pre : ∀ dss, dss <+: bss → ∀ j, IsJoin dss j → LimitsOk j
  log : logB r.log <+: rowB bss
  up : r.up = true → logB r.log = rowB bss ∧ IsJoin bss r.bs
  part : css <+: bss
  len : rowB css <+: logB r.log
  la : (rowB css).length ≤ r.la
  cov : Cover css B
def Lasting (B : List Ser) (r : RS) : Prop := ∃ bss css, Logs bss css B r
theorem last_r0 : Lasting [] r0 := ⟨[], [], fun b hb => (by cases hb), fun dss hd j hj => by
  have e : dss = [] := by simpa using hd
  subst e
  rw [hj.unique IsJoin.none]; exact ok_nil.2.1, List.prefix_refl _, fun _ => ⟨rfl, IsJoin.none⟩, List.prefix_refl _, List.prefix_refl _, Nat.zero_le _, Cover.nil _⟩
theorem last_write {B b : List Ser} {r r' : RS} {n : Nat} (h : Lasting B r) (hu : r.up = true) (hr : InRange b) (hw : WriteOf r b n r') : Lasting B r' := by
  rcases hw with ⟨_, _, rfl⟩ | ⟨hc0, j, hj, hc, ⟨_, rfl⟩ | ⟨_, _, rfl⟩ | ⟨rfl, _, rfl⟩⟩
  · exact h
  · exact h
  · exact h
  · obtain ⟨bss, css, h⟩ := h
    obtain ⟨g1, g2⟩ := code0 hc0
    obtain ⟨u1, u2⟩ := h.up hu
    have hjn : IsJoin (bss ++ [b]) j := u2.group hj (fun x hx => (h.ok x hx).1)
    have e : logB (frB b :: r.log) = rowB (bss ++ [b]) := by
      rw [logB_cons, u1, rowB_snoc]
      unfold frB
      rw [BA_list]
    refine ⟨bss ++ [b], css, fun x hx => ?_, fun dss hd j' hj' => ?_, ?_, fun _ => ⟨e, hjn⟩, h.part.trans (List.prefix_append _ _), ?_, h.la, h.cov⟩
    · rcases List.mem_append.1 hx with hx | hx
      · exact h.ok x hx
      · rw [List.mem_singleton.1 hx]; exact ⟨g1, g2, hr⟩
    · rcases List.prefix_concat_iff.1 hd with rfl | hd
      · rw [hj'.unique hjn]; exact (code0 hc).2
      · exact h.pre dss hd j' hj'
    · show logB (frB b :: r.log) <+: _
      rw [e]; exact List.prefix_refl _
    · show rowB css <+: logB (frB b :: r.log)
      rw [logB_cons]; exact h.len.trans (List.prefix_append _ _)
theorem last_crash {B : List Ser} {r : RS} (h : Lasting B r) (keep : Int) : Lasting B (crashOf r keep) := by
  obtain ⟨bss, css, h⟩ := h
  have hk : r.la ≤ keptN r keep := by unfold keptN; omega
  have hla := h.la
  refine ⟨bss, css, h.ok, h.pre, ?_, fun e => (by cases e), h.part, ?_, ?_, h.cov⟩
  · show logB [BA _] <+: _
    rw [logB_one]
    exact (List.take_prefix _ _).trans h.log
  · show rowB css <+: logB [BA _]
    rw [logB_one]
    refine List.prefix_of_prefix_length_le h.len (List.take_prefix _ _) ?_
    have := h.len.length_le
    rw [List.length_take]
    omega
  · show (rowB css).length ≤ keptN r keep
    omega
theorem last_restart {B : List Ser} {r r' : RS} {n : Nat} (h : Lasting B r) (hr : RestartOf r n r') : Lasting B r' := by
  rcases hr with ⟨_, _, rfl⟩ | ⟨_, _, dss, z, j, m, hrow, hj, hc, rfl⟩
  · exact h
  · obtain ⟨bss, css, h⟩ := h
    obtain ⟨i1, i2⟩ := row_of bss h.ok _ h.log hrow
    have i3 := row_ge css (fun b hb => h.ok b (h.part.subset hb)) _ h.len hrow
    have hm : m = 0 := hc.uni (.inr (.inr ⟨rfl, hj.ok, h.pre dss i1 j hj⟩))
    subst hm
    have e : logB [BA ((logB r.log).take z)] = rowB dss := by rw [logB_one, i2]
    refine ⟨dss, css, fun b hb => h.ok b (i1.subset hb), fun d hd j' hj' => h.pre d (hd.trans i1) j' hj', ?_, fun _ => ⟨e, hj⟩, i3, ?_, ?_, h.cov⟩
    · show logB [BA _] <+: _
      rw [e]; exact List.prefix_refl _
    · show _ <+: logB [BA _]
      rw [e]; exact rowB_prefix i3
    · show (rowB css).length ≤ z
      have h1 := (rowB_prefix i3).length_le
      rw [i2, List.length_take] at h1
      omega
theorem last_sync {B : List Ser} {r : RS} (h : Lasting B r) : Lasting B { r with la := logSize r.log } := by
  obtain ⟨bss, css, h⟩ := h
  refine ⟨bss, css, h.ok, h.pre, h.log, h.up, h.part, h.len, ?_, h.cov⟩
  show (rowB css).length ≤ logSize r.log
  rw [← logB_length]; exact h.len.length_le
theorem sync_all {B : List Ser} {r : RS} (h : Lasting B r) (hu : r.up = true) : Lasting r.bs { r with la := logSize r.log } := by
  obtain ⟨bss, css, h⟩ := h
  obtain ⟨u1, u2⟩ := h.up hu
  refine ⟨bss, bss, h.ok, h.pre, h.log, h.up, List.prefix_refl _, by show _ <+: logB r.log; rw [u1]; exact List.prefix_refl _, ?_, fun l t v hh => ?_⟩
  · show (rowB bss).length ≤ logSize r.log
    rw [← logB_length, u1]; exact Nat.le_refl _
  · obtain ⟨⟨b, hb, h1⟩, _⟩ := (u2.holds l t v).1 hh
    exact ⟨b, hb, v, Nat.le_refl _, h1⟩
theorem compact_all {M : Nat} {r : RS} (hk : RepOk M r) : Lasting r.bs (compactOf r) := by
  by_cases e : r.bs = []
  · have e2 : compactOf r = { r with log := [], la := logSize [] } := by unfold compactOf; rw [if_pos e]
    rw [e2]
    refine ⟨[], [], fun b hb => (by cases hb), fun dss hd j hj => ?_, List.prefix_refl _, fun _ => ⟨rfl, by show IsJoin [] r.bs; rw [e]; exact IsJoin.none⟩, List.prefix_refl _, List.prefix_refl _, Nat.zero_le _, by rw [e]; exact Cover.nil _⟩
    have e3 : dss = [] := by simpa using hd
    subst e3
    rw [hj.unique IsJoin.none]; exact ok_nil.2.1
  · have e2 : compactOf r = { r with log := [frB r.bs], la := logSize [frB r.bs] } := by unfold compactOf; rw [if_neg e]
    have e3 : logB [frB r.bs] = rowB [r.bs] := by
      show logB [BA _] = _
      rw [logB_one, rowB_cons]; simp [rowB]
    rw [e2]
    refine ⟨[r.bs], [r.bs], fun b hb => by rw [List.mem_singleton.1 hb]; exact ⟨hk.ok, hk.lim, hk.rng⟩, fun dss hd j hj => ?_, by show logB [frB r.bs] <+: _; rw [e3]; exact List.prefix_refl _, fun _ => ⟨e3, IsJoin.one hk.ok⟩, List.prefix_refl _, by show _ <+: logB [frB r.bs]; rw [e3]; exact List.prefix_refl _, ?_, fun l t v hh => ⟨r.bs, by simp, v, Nat.le_refl _, hh⟩⟩
    · rcases List.prefix_concat_iff.1 (show dss <+: [] ++ [r.bs] from hd) with rfl | hd
      · rw [hj.unique (IsJoin.one hk.ok)]; exact hk.lim
      · have e4 : dss = [] := by simpa using hd
        subst e4
        rw [hj.unique IsJoin.none]; exact ok_nil.2.1
    · show (rowB [r.bs]).length ≤ logSize [frB r.bs]
      rw [← logB_length, e3]; exact Nat.le_refl _
theorem last_put {B : List Ser} {S : CS} {j k : Nat} {r' : RS} (hj : k = j → Lasting B r') (h : Lasting B (S.r k)) : Lasting B ((S.put j r').r k) := by
  by_cases e : k = j
  · have e2 : (S.put j r').r k = r' := by simp [CS.put, e]
    rw [e2]; exact hj e
  · have e2 : (S.put j r').r k = S.r k := by simp [CS.put, e]
    rw [e2]; exact h
theorem step_last {B b : List Ser} {S S' : CS} (hs : StepOf S S' b) {k : Nat} (h : Lasting B (S.r k)) : Lasting B (S'.r k) := by
  cases hs using StepOf.elim with
  | stay => exact h
  | sync j hj => exact last_put (fun e => by subst e; split; exact last_sync h; exact h) h
  | push => exact h
  | deliver i n S' hd =>
    rcases hd with ⟨_, rfl, _⟩ | ⟨_, q, m, r', _, hm, hr, rfl⟩
    · exact h
    · refine last_put (S := ⟨S.r, S.ms.eraseIdx q⟩) (fun e => ?_) h
      subst e
      rcases hr with ⟨_, rfl⟩ | ⟨hu, _, n, hw⟩
      · exact h
      · exact last_write h hu (got_range _) hw
  | drop => exact h
  | twice => exact h
  | spoil => exact h
  | crash j keep hj => exact last_put (fun e => by subst e; split; exact last_crash h keep; exact h) h
  | restart j n r' hj hr => exact last_put (fun e => by subst e; exact last_restart h hr) h
  | write j n b r' hj hu hw h1 h2 h3 => exact last_put (fun e => by subst e; exact last_write h hu h3 hw) h
/-- Behind a restart all that is covered is there. -/
theorem last_grows {B : List Ser} {r : RS} (h : Lasting B r) (hu : r.up = true) : Grows B r.bs := fun l t v hh => by
  obtain ⟨bss, css, h⟩ := h
  obtain ⟨_, u2⟩ := h.up hu
  obtain ⟨b, hb, u, hvu, h1⟩ := h.cov l t v hh
  have hb2 := h.part.subset hb
  obtain ⟨w, hw⟩ := holds_max (fun bs hbs => (h.ok bs hbs).1) l t ⟨b, hb2, u, h1⟩
  exact ⟨w, Nat.le_trans hvu (hw.2 b hb2 u h1), (u2.holds l t w).2 hw⟩
theorem restart_up {r r' : RS} {n : Nat} (hr : RestartOf r n r') : r'.up = true := by
  rcases hr with ⟨h, _, rfl⟩ | ⟨_, _, _, _, _, _, _, _, _, rfl⟩
  · exact h
  · rfl
theorem restart_down {r r' : RS} {n : Nat} (hd : r.up = false) (hr : RestartOf r n r') : n = 0 ∧ r'.la = logSize r'.log := by
  rcases hr with ⟨h, _, rfl⟩ | ⟨_, hn, bss, z, j, m, hrow, _, _, rfl⟩
  · rw [hd] at h; cases h
  · refine ⟨hn, ?_⟩
    show z = logSize [BA _]
    rw [← logB_length, logB_one, List.length_take]
    have := row_le hrow
    omega
theorem again_same {B : List Ser} {r r' : RS} {n : Nat} {again : Int} (h : Lasting B r) (hu : r.up = true) (hla : r.la = logSize r.log) (hr : RestartOf (crashOf r again) n r') : n = 0 ∧ r'.up = true ∧ r'.bs = r.bs ∧ logB r'.log = logB r.log := by
  obtain ⟨bss, css, h⟩ := h
  obtain ⟨u1, u2⟩ := h.up hu
  have hkn : keptN r again = logSize r.log := by unfold keptN; omega
  have hlog : logB (crashOf r again).log = rowB bss := by
    show logB [BA _] = _
    rw [logB_one, hkn, ← logB_length, List.take_length, u1]
  rcases hr with ⟨e, _, _⟩ | ⟨_, hn, dss, z, j, m, hrow, hj, hc, rfl⟩
  · cases e
  · rw [hlog] at hrow
    obtain ⟨i1, i2⟩ := row_of bss h.ok _ (List.prefix_refl _) hrow
    have i3 := row_ge bss h.ok _ (List.prefix_refl _) hrow
    have e : dss = bss := i1.eq_of_length (Nat.le_antisymm i1.length_le i3.length_le)
    subst e
    have ej := hj.unique u2
    subst ej
    have hm : m = 0 := hc.uni (.inr (.inr ⟨rfl, hj.ok, h.pre dss (List.prefix_refl _) _ hj⟩))
    subst hm
    refine ⟨hn, rfl, rfl, ?_⟩
    show logB [BA ((logB (crashOf r again).log).take z)] = _
    rw [logB_one, hlog, ← i2, u1]
end Go.Proofs.YtamcclcbmenjdaaGreatDoor

/- Where Lasts stands. -/
namespace Go.Proofs.YtamcclcbmenjdaaGreatDoor
open Go.RowKit Go.Lib

structure LInv (W w : World) (S : CS) (M : Nat) (B : Nat → List Ser) : Prop where
  clu : CluAt w W.heap.size S
  ok : CSOk M S
  last : ∀ k, k < 3 → Lasting (B k) (S.r k)
  tabs : Tabs w
  below : Below W.heap.size W w
  two : 2 < W.heap.size
theorem Tabs.turn {w w' : World} {cb lo hi : Nat} (h : Tabs w) (ht : Turn w w' cb lo hi) (hc : 2 < cb) : Tabs w' := by
  have := h.lt
  exact h.kept (ht.block _ (by omega) (by omega)) (ht.block _ (by omega) (by omega))
theorem Turn.below {W w w' : World} {lo hi : Nat} (h : Below W.heap.size W w) (ht : Turn w w' W.heap.size lo hi) : Below W.heap.size W w' :=
  h.trans ⟨ht.os, ht.tape, ht.output, ht.size, fun k hk => ht.block k (Nat.lt_of_lt_of_le hk h.size) (by omega)⟩
section
variable {W w w' : World} {M : Nat} {S : CS} {B : Nat → List Ser}
theorem LInv.kept (h : LInv W w S M B) (hb : Below w.heap.size w w') : LInv W w' S M B :=
  ⟨h.clu.below hb, h.ok, h.last, h.tabs.below hb (by have := h.tabs.lt; omega), h.below.trans (hb.mono h.below.size), h.two⟩
theorem LInv.step (h : LInv W w S M B) {S' : CS} {b : List Ser} (hs : StepOf S S' b) (hc : CluAt w' W.heap.size S') (ht : Turn w w' W.heap.size 0 136) : LInv W w' S' (M + 60011) B :=
  ⟨hc, step_ok h.ok hs, fun k hk => step_last hs (h.last k hk), h.tabs.turn ht h.two, ht.below h.below, h.two⟩
theorem LInv.put (h : LInv W w S M B) {k : Nat} {r' : RS} {sv lp : Value} {B' : List Ser} (hk : k < 3) (hr : RepAt w' W.heap.size (k * 5) r' sv lp) (ht : Turn w w' W.heap.size (k * 5) (k * 5 + 5)) (ho : RepOk M r') (hl : Lasting B' r') :
    LInv W w' (S.put k r') M (fun j => if j = k then B' else B j) := by
  refine ⟨h.clu.rep1 hk hr ht, h.ok.put ho, fun j hj => ?_, h.tabs.turn ht h.two, ht.below h.below, h.two⟩
  by_cases e : j = k
  · subst e
    have e2 : (S.put j r').r j = r' := by simp [CS.put]
    rw [e2]; simp only [if_pos]; exact hl
  · have e2 : (S.put k r').r j = S.r j := by simp [CS.put, e]
    rw [e2]; simp only [if_neg e]; exact h.last j hj
end
theorem compact_ok {M : Nat} {r : RS} (h : RepOk M r) (hM : 60011 ≤ M) : RepOk M (compactOf r) := by
  refine ⟨h.ok, h.lim, h.rng, ?_, Nat.le_refl _⟩
  show logSize (if r.bs = [] then [] else [frB r.bs]) ≤ M
  split
  · exact Nat.zero_le _
  · have := frB_size (fits_of h.ok h.lim)
    simp [logSize]; omega
theorem put_r (S : CS) (k : Nat) (r' : RS) : (S.put k r').r k = r' := by simp [CS.put]
end Go.Proofs.YtamcclcbmenjdaaGreatDoor

/- How many samples a join has. No program here. -/
namespace Go.Proofs.YtamcclcbmenjdaaGreatDoor

/-- The keys of a batch: labels and times. -/
def keysOf (bs : List Ser) : List (List Lab × Int) := bs.flatMap fun s => s.2.map fun x => (s.1, x.1)
def countS (bs : List Ser) : Nat := (keysOf bs).length
theorem keysOf_app (a b : List Ser) : keysOf (a ++ b) = keysOf a ++ keysOf b := by simp [keysOf]
theorem mem_keys {bs : List Ser} {l : List Lab} {t : Int} : (l, t) ∈ keysOf bs ↔ ∃ v, Holds bs l t v := by
  constructor
  · intro h
    obtain ⟨s, hs, hx⟩ := List.mem_flatMap.1 h
    obtain ⟨x, hm, e⟩ := List.mem_map.1 hx
    cases e
    exact ⟨x.2, s, hs, rfl, hm⟩
  · rintro ⟨v, s, hs, e, hx⟩
    exact List.mem_flatMap.2 ⟨s, hs, List.mem_map.2 ⟨(t, v), hx, by rw [e]⟩⟩
theorem keys_nodup {bs : List Ser} (h : BatchOk bs) : (keysOf bs).Nodup := by
  rw [batchOk_iff] at h
  obtain ⟨h1, h2⟩ := h
  induction bs with
  | nil => exact List.nodup_nil
  | cons s r ih =>
    obtain ⟨ha, hr⟩ := List.pairwise_cons.1 h2
    show ((s.2.map fun x => (s.1, x.1)) ++ keysOf r).Nodup
    rw [List.nodup_append]
    refine ⟨?_, ih (fun x hx => h1 x (List.mem_cons_of_mem _ hx)) hr, ?_⟩
    · have := ((samplesOk_iff _).1 (h1 s (List.mem_cons_self ..)).2).2
      refine List.pairwise_map.2 (this.imp fun {x y} hxy e => ?_)
      have hxy : x.1 < y.1 := hxy
      have e1 : x.1 = y.1 := (Prod.mk.inj e).2
      omega
    · intro x hx y hy e
      obtain ⟨p, _, e1⟩ := List.mem_map.1 hx
      obtain ⟨q, hq, hy⟩ := List.mem_flatMap.1 hy
      obtain ⟨u, _, e2⟩ := List.mem_map.1 hy
      have e3 : (s.1, p.1) = (q.1, u.1) := e1.trans (e.trans e2.symm)
      have e4 : s.1 = q.1 := (Prod.mk.inj e3).1
      have := ha q hq
      unfold LLt at this
      rw [e4, cmpLabs_self] at this
      cases this
section
variable {α : Type}
theorem union_len {a b j : List α} {p : α → Bool} (hp : ∀ x, p x = true ↔ x ∈ a) (ha : a.Nodup) (hb : b.Nodup) (hj : j.Nodup) (hm : ∀ x, x ∈ j ↔ x ∈ a ∨ x ∈ b) : j.length + b.countP p = a.length + b.length := by
  have hpm : j.Perm (a ++ b.filter fun x => !p x) := by
    rw [List.perm_ext_iff_of_nodup hj]
    · intro x
      rw [hm, List.mem_append, List.mem_filter, ← hp]
      cases p x <;> simp
    · rw [List.nodup_append]
      refine ⟨ha, hb.filter _, fun x hx y hy e => ?_⟩
      subst e
      have := (List.mem_filter.1 hy).2
      simp [(hp x).2 hx] at this
  rw [hpm.length_eq, List.length_append, ← List.countP_eq_length_filter]
  have := List.length_eq_countP_add_countP p (l := b)
  have e : b.countP (fun x => !p x) = b.countP (fun x => ¬ p x = true) := by
    congr 1; funext x; simp
  rw [e]; omega
theorem inter_len {a b : List α} {p q : α → Bool} (hp : ∀ x, p x = true ↔ x ∈ a) (hq : ∀ x, q x = true ↔ x ∈ b) (ha : a.Nodup) (hb : b.Nodup) : a.countP q = b.countP p := by
  have hpm : (a.filter q).Perm (b.filter p) := by
    rw [List.perm_ext_iff_of_nodup (ha.filter _) (hb.filter _)]
    intro x
    rw [List.mem_filter, List.mem_filter, hp, hq, and_comm]
  rw [List.countP_eq_length_filter, List.countP_eq_length_filter]; exact hpm.length_eq
end
/-- Is a key in a batch? -/
def isKey (a : List Ser) (k : List Lab × Int) : Bool := (keysOf a).any fun x => decide (x.1 = k.1) && decide (x.2 = k.2)
theorem isKey_iff (a : List Ser) (k : List Lab × Int) : isKey a k = true ↔ k ∈ keysOf a := by
  unfold isKey
  rw [List.any_eq_true]
  constructor
  · rintro ⟨x, hx, e⟩
    rw [Bool.and_eq_true, decide_eq_true_eq, decide_eq_true_eq] at e
    have : x = k := Prod.ext e.1 e.2
    rw [← this]; exact hx
  · exact fun h => ⟨k, h, by simp⟩
/-- Is a key in both? -/
def inBoth (a b : List Ser) (k : List Lab × Int) : Bool := isKey a k && isKey b k
theorem countP_mem {α : Type} {p q : α → Bool} {l : List α} (h : ∀ x ∈ l, p x = q x) : l.countP p = l.countP q := List.countP_congr fun x hx => by rw [h x hx]
theorem both_count {a b j : List Ser} (ha : BatchOk a) (hb : BatchOk b) (hj : IsJoin [a, b] j) : (keysOf (a ++ b)).countP (inBoth a b) = 2 * (keysOf b).countP (isKey a) ∧ countS j + (keysOf b).countP (isKey a) = countS a + countS b := by
  refine ⟨?_, union_len (isKey_iff a) (keys_nodup ha) (keys_nodup hb) (keys_nodup hj.ok) ?_⟩
  · rw [keysOf_app, List.countP_append]
    have e1 : (keysOf a).countP (inBoth a b) = (keysOf a).countP (isKey b) := countP_mem fun x hx => by simp [inBoth, (isKey_iff a x).2 hx]
    have e2 : (keysOf b).countP (inBoth a b) = (keysOf b).countP (isKey a) := countP_mem fun x hx => by simp [inBoth, (isKey_iff b x).2 hx]
    rw [e1, e2, inter_len (isKey_iff a) (isKey_iff b) (keys_nodup ha) (keys_nodup hb)]; omega
  · rintro ⟨l, t⟩
    rw [mem_keys, mem_keys, mem_keys]
    constructor
    · rintro ⟨v, h⟩
      obtain ⟨⟨bs, hbs, h⟩, _⟩ := (hj.holds l t v).1 h
      rcases List.mem_cons.1 hbs with rfl | hbs
      · exact .inl ⟨v, h⟩
      · rw [List.mem_singleton.1 hbs] at h; exact .inr ⟨v, h⟩
    · intro h
      have hx : ∃ bs ∈ [a, b], ∃ u, Holds bs l t u := by
        rcases h with ⟨v, h⟩ | ⟨v, h⟩
        · exact ⟨a, by simp, v, h⟩
        · exact ⟨b, by simp, v, h⟩
      obtain ⟨v, h1, h2⟩ := holds_max (bss := [a, b]) (fun bs hbs => by
        rcases List.mem_cons.1 hbs with rfl | hbs
        · exact ha
        · rw [List.mem_singleton.1 hbs]; exact hb) l t hx
      exact ⟨v, (hj.holds l t v).2 ⟨h1, h2⟩⟩
/-- What is at a key: bits, or none. -/
def AtOf (bs : List Ser) (l : List Lab) (t : Int) (r : Option Nat) : Prop :=
  match r with
  | some v => Holds bs l t v
  | none => ∀ v, ¬ Holds bs l t v
theorem AtOf.mem {bs : List Ser} {l : List Lab} {t : Int} {r : Option Nat} (h : AtOf bs l t r) : isKey bs (l, t) = r.isSome := by
  cases r with
  | none =>
    refine Bool.eq_false_iff.2 fun e => ?_
    obtain ⟨v, hv⟩ := mem_keys.1 ((isKey_iff _ _).1 e)
    exact h v hv
  | some v => exact (isKey_iff _ _).2 (mem_keys.2 ⟨v, h⟩)
/-- What the join has at a key of one of the two. -/
theorem both_at {a b j : List Ser} (ha : BatchOk a) (hb : BatchOk b) (hj : IsJoin [a, b] j) {l : List Lab} {t : Int} {u v w : Option Nat} (h1 : AtOf a l t u) (h2 : AtOf b l t v) (h3 : AtOf j l t w) (hk : (l, t) ∈ keysOf (a ++ b)) :
    ∃ m, w = some m ∧ (∀ x, u = some x → x ≤ m) ∧ (∀ x, v = some x → x ≤ m) ∧ (u = some m ∨ v = some m) := by
  have hab : ∀ bs ∈ [a, b], BatchOk bs := fun bs hbs => by
    rcases List.mem_cons.1 hbs with rfl | hbs
    · exact ha
    · rw [List.mem_singleton.1 hbs]; exact hb
  have hx : ∃ bs ∈ [a, b], ∃ u, Holds bs l t u := by
    rw [keysOf_app, List.mem_append, mem_keys, mem_keys] at hk
    rcases hk with ⟨v, h⟩ | ⟨v, h⟩
    · exact ⟨a, by simp, v, h⟩
    · exact ⟨b, by simp, v, h⟩
  obtain ⟨m, h4, h5⟩ := holds_max hab l t hx
  have hm : Holds j l t m := (hj.holds l t m).2 ⟨h4, h5⟩
  have hw : w = some m := by
    cases w with
    | none => exact absurd hm (h3 m)
    | some x => rw [Holds.unique hj.ok h3 hm]
  refine ⟨m, hw, fun x hx => ?_, fun x hx => ?_, ?_⟩
  · subst hx; exact h5 a (by simp) x h1
  · subst hx; exact h5 b (by simp) x h2
  · obtain ⟨bs, hbs, hh⟩ := h4
    rcases List.mem_cons.1 hbs with rfl | hbs
    · left
      cases u with
      | none => exact absurd hh (h1 m)
      | some x => rw [Holds.unique ha h1 hh]
    · rw [List.mem_singleton.1 hbs] at hh
      right
      cases v with
      | none => exact absurd hh (h2 m)
      | some x => rw [Holds.unique hb h2 hh]
end Go.Proofs.YtamcclcbmenjdaaGreatDoor

/- choirkeep's at. -/
namespace Go.Proofs.YtamcclcbmenjdaaGreatDoor
open Go.RowKit Go.Lib

theorem batch_one {w : World} {B g : Nat} {lv : Value} {l : List Lab} (hc0 : w.cell? ⟨g, 0, none⟩ = some lv) (hc1 : w.cell? ⟨g, 1, none⟩ = some (.slice none 0 0)) (hg : g < B) (hl : LabelsAt w B lv l) : BatchAt w B (.slice (some ⟨g, 0, none⟩) 1 1) [(l, [])] :=
  ⟨_, 1, rfl, Nat.le_refl _, .inr ⟨g, 0, rfl, hg, fun i x hx => by
    match i, hx with
    | 0, hx =>
      have : x = (l, []) := by simpa using hx.symm
      subst this
      exact ⟨lv, _, hc0, hc1, hl, none, 0, rfl, Nat.le_refl _, (fun x h => by cases h), .inl rfl⟩
    | i + 1, hx => simp at hx⟩⟩
theorem small_one {l : List Lab} (h : l.length ≤ 10000000000000) : Small [(l, [])] :=
  ⟨by simp, fun s hs => by rw [List.mem_singleton.1 hs]; exact h, fun s hs => by rw [List.mem_singleton.1 hs]; simp⟩
set_option maxRecDepth 100000 in
set_option maxHeartbeats 1000000 in
theorem kat_any (W : World) (v lv : Value) (bs : List Ser) (l : List Lab) (t : Int) (hb : BatchAt W W.heap.size v bs) (hl : LabelsAt W W.heap.size lv l) (hsm : Small bs) (hll : l.length ≤ 10000000000000) :
    Calls Tryz.prog 58 #[v, lv, .int .i64 t] W fun e w' => ∃ r, AtOf bs l t r ∧ e = .returned (.tuple #[.int .u64 ((r.getD 0 : Nat) : Int), .bool r.isSome]) ∧ Below W.heap.size W w' := by
  obtain ⟨va, vc, rfl, _⟩ := id hb
  obtain ⟨la, lc, rfl, _⟩ := id hl
  have HB := hide hb
  have HL := hide hl
  have HSm := hide hsm
  have hbl := hsm.series
  clear hb hl hsm
  go_enter Tryz.func58, Tryz.ntmps58
  go_wp2
  go_loopw [8, 9, 10] (fun i _ _ wr => ∃ m : Nat, m ≤ bs.length ∧ i = .int .i64 m ∧ Hid (∀ s ∈ bs.take m, s.1 = l → ∀ v, (t, v) ∉ s.2) ∧ Hid (Below W.heap.size W wr)) (fun i _ _ _ => bs.length - (intOf i).toNat)
  case atStart => exact ⟨0, Nat.zero_le _, rfl, fun s h => by simp at h, Below.refl _ _⟩
  case round =>
    obtain ⟨m, hm, rfl, HNo, HW⟩ := hrel
    by_cases hlt : m < bs.length
    · obtain ⟨⟨ll, sl⟩, hx⟩ : ∃ x, bs[m]? = some x := ⟨_, List.getElem?_eq_getElem hlt⟩
      have hBr := HB.out.below HW.out (Nat.le_refl _)
      have hLr := HL.out.below HW.out (Nat.le_refl _)
      obtain ⟨b1, o1, la1, lc1, sa1, sc1, rfl, hb1, p1, p2, L1, S1⟩ := hBr.get hx
      have hs0 := HW.out.size
      have hl1 := HSm.out.labels _ (List.mem_of_getElem? hx)
      have hs1 := HSm.out.samples _ (List.mem_of_getElem? hx)
      simp only at p1 p2 L1 S1 hl1 hs1
      have C := hide (same_iff (.slice (some ⟨wr.heap.size, 0, none⟩) 1 1) (.slice (some ⟨wr.heap.size + 1, 0, none⟩) 1 1) [(ll, [])] [(l, [])] ((wr.alloc (.cells #[.slice la1 ll.length lc1, .slice none 0 0] 38)).alloc (.cells #[.slice la l.length lc, .slice none 0 0] 38))
        (batch_one (lv := .slice la1 ll.length lc1) ((World.cell?_alloc_old _ _ _ (by simp)).trans (World.cell?_alloc_new _ _ _ 0)) ((World.cell?_alloc_old _ _ _ (by simp)).trans (World.cell?_alloc_new _ _ _ 1)) (by simp; omega) ((L1.kept fun k hk => (heap_alloc_old _ _ (by simp; omega)).trans (heap_alloc_old _ _ (by omega))).wider (by simp; omega)))
        (batch_one (lv := .slice la l.length lc) (by rw [World.cell?_alloc_at _ _ _ _ (by simp)]; rfl) (by rw [World.cell?_alloc_at _ _ _ _ (by simp)]; rfl) (by simp) ((hLr.kept fun k hk => (heap_alloc_old _ _ (by simp; omega)).trans (heap_alloc_old _ _ (by omega))).wider (by simp; omega)))
        (small_one hl1) (small_one hll))
      have HS := hide S1
      have HX := hide hx
      clear hBr hLr L1 S1 hx
      go_wp2_with fail
      refine C.out.mono ?_
      rintro e w2 ⟨⟨r, rfl, hr⟩, hb2⟩
      have HB2 : Hid (Below wr.heap.size wr w2) := (((Below.refl wr.heap.size wr).alloc (Nat.le_refl _) _).alloc (by simp) _).trans (hb2.mono (by simp; omega))
      have HW2 : Hid (Below W.heap.size W w2) := HW.out.trans (HB2.out.mono hs0)
      have c1 := (HB2.out.cell (p := ⟨b1, o1 + m * 2, none⟩) (by show b1 < _; omega)).trans p1
      have c2 := (HB2.out.cell (p := ⟨b1, o1 + m * 2 + 1, none⟩) (by show b1 < _; omega)).trans p2
      have HR : Hid (r = true ↔ ll = l) := hr.trans ⟨fun e => by simpa using e, fun e => by rw [e]⟩
      have HS2 := hide (HS.out.below HB2.out hs0)
      clear C HB2 HW HS hb2 hr p1 p2
      cases r with
      | true =>
        have hll2 : ll = l := HR.out.1 rfl
        go_wp2
        go_loopw [10] (fun i w3 => ∃ k : Nat, k ≤ sl.length ∧ i = .int .i64 k ∧ w3 = w2 ∧ Hid (∀ y ∈ sl.take k, y.1 ≠ t)) (fun i _ => sl.length - (intOf i).toNat)
        case atStart => exact ⟨0, Nat.zero_le _, rfl, rfl, fun y h => by simp at h⟩
        case round =>
          obtain ⟨k, hk, rfl, rfl, HK⟩ := hrel
          by_cases hkl : k < sl.length
          · obtain ⟨⟨tx, bx⟩, hy⟩ : ∃ x, sl[k]? = some x := ⟨_, List.getElem?_eq_getElem hkl⟩
            obtain ⟨e1, f1, rfl, u1, u2⟩ := samGet HS2.out hy
            simp only at u1 u2
            by_cases ht : tx = t
            · subst ht
              have HA : Hid (AtOf bs l tx (some bx)) := ⟨(ll, sl), List.mem_of_getElem? HX.out, hll2, List.mem_of_getElem? hy⟩
              clear hy
              go_wp2
              go_ret2
              exact ⟨some bx, HA.out, by trivial, HW2.out⟩
            · have HK2 : Hid (∀ y ∈ sl.take (k + 1), y.1 ≠ t) := fun y hyt => by
                rw [List.take_add_one, hy] at hyt
                rcases List.mem_append.1 hyt with h | h
                · exact HK.out y h
                · have : y = (tx, bx) := by simpa using h
                  rw [this]; exact ht
              clear hy HK
              go_wp2
              go_roundw
              case rel => exact ⟨k + 1, by omega, by go_num, by trivial, HK2.out⟩
              case measure => simp [intOf]; omega
          · have HN2 : Hid (∀ s ∈ bs.take (m + 1), s.1 = l → ∀ v, (t, v) ∉ s.2) := fun s hs e v hv => by
              rw [List.take_add_one, HX.out] at hs
              rcases List.mem_append.1 hs with h | h
              · exact HNo.out s h e v hv
              · have : s = (ll, sl) := by simpa using h
                subst this
                have h2 : (t, v) ∈ sl.take k := by rw [List.take_of_length_le (by omega)]; exact hv
                exact HK.out _ h2 rfl
            clear HK
            go_wp2
            go_roundw
            case rel => exact ⟨m + 1, by omega, by go_num, HN2.out, HW2.out⟩
            case measure => simp [intOf]; omega
      | false =>
        have HN2 : Hid (∀ s ∈ bs.take (m + 1), s.1 = l → ∀ v, (t, v) ∉ s.2) := fun s hs e v hv => by
          rw [List.take_add_one, HX.out] at hs
          rcases List.mem_append.1 hs with h | h
          · exact HNo.out s h e v hv
          · have : s = (ll, sl) := by simpa using h
            subst this
            exact absurd (HR.out.2 e) (by decide)
        go_wp2
        go_loopw [10] (fun i w3 => i = .int .i64 0 ∧ w3 = w2) (fun _ _ => 0)
        case atStart => exact ⟨rfl, rfl⟩
        case round =>
          obtain ⟨rfl, rfl⟩ := hrel
          go_wp2
          go_roundw
          case rel => exact ⟨m + 1, by omega, by go_num, HN2.out, HW2.out⟩
          case measure => simp [intOf]; omega
    · have HA : Hid (AtOf bs l t none) := fun v ⟨s, hs, e, hv⟩ => HNo.out s (by rw [List.take_of_length_le (by omega)]; exact hs) e v hv
      go_wp2
      go_ret2
      exact ⟨none, HA.out, rfl, HW.out⟩
end Go.Proofs.YtamcclcbmenjdaaGreatDoor

/- choirkeep's within: is all of one list in another? -/
namespace Go.Proofs.YtamcclcbmenjdaaGreatDoor
open Go.RowKit Go.Lib

theorem within_at {a b : List Ser} (hb : BatchOk b) (hg : Grows a b) {s : Ser} {t : Int} {v : Nat} {r : Option Nat} (hs : s ∈ a) (hx : (t, v) ∈ s.2) (h : AtOf b s.1 t r) : ∃ u, r = some u ∧ v ≤ u := by
  obtain ⟨u, hu, hh⟩ := hg s.1 t v ⟨s, hs, rfl, hx⟩
  cases r with
  | none => exact absurd hh (h u)
  | some y => exact ⟨y, rfl, by rw [Holds.unique hb h hh]; exact hu⟩
set_option maxRecDepth 100000 in
set_option maxHeartbeats 1000000 in
theorem within_any (W : World) (va vb : Value) (a b : List Ser) (hA : BatchAt W W.heap.size va a) (hB : BatchAt W W.heap.size vb b) (sma : Small a) (smb : Small b) (ob : BatchOk b) (hg : Grows a b) :
    Calls Tryz.prog 20 #[va, vb] W fun e w' => e = .returned (.bool true) ∧ Below W.heap.size W w' := by
  obtain ⟨aa, ac, rfl, -⟩ := id hA
  obtain ⟨ba, bc, rfl, -⟩ := id hB
  have HA := hide hA
  have HB := hide hB
  have HSa := hide sma
  have HSb := hide smb
  have HG : Hid (∀ (s : Ser) (t : Int) (v : Nat) (r : Option Nat), s ∈ a → (t, v) ∈ s.2 → AtOf b s.1 t r → ∃ u, r = some u ∧ v ≤ u) := fun s t v r h1 h2 h3 => within_at ob hg h1 h2 h3
  have hal := sma.series
  clear hA hB sma smb ob hg
  go_enter Tryz.func20, Tryz.ntmps20
  go_wp2
  go_loopw [5, 6, 7, 8] (fun i _ _ _ wr => ∃ m : Nat, m ≤ a.length ∧ i = .int .i64 m ∧ Hid (Below W.heap.size W wr)) (fun i _ _ _ _ => a.length - (intOf i).toNat)
  case atStart => exact ⟨0, Nat.zero_le _, rfl, Below.refl _ _⟩
  case round =>
    obtain ⟨m, hm, rfl, HW⟩ := hrel
    by_cases hlt : m < a.length
    · obtain ⟨⟨ll, sl⟩, hx⟩ : ∃ x, a[m]? = some x := ⟨_, List.getElem?_eq_getElem hlt⟩
      have hl1 := HSa.out.labels _ (List.mem_of_getElem? hx)
      have hs1 := HSa.out.samples _ (List.mem_of_getElem? hx)
      obtain ⟨lb, lo, la1, lc1, sa1, sc1, rfl, hlb1, p1, p2, L1, S1⟩ := HA.out.get hx
      simp only at p1 p2 L1 S1 hl1 hs1
      have HL1 := hide L1
      have HS1 := hide S1
      have HX := hide hx
      clear hx L1 S1
      go_wp2
      go_loopw [6, 7, 8] (fun k _ _ wr => ∃ q : Nat, q ≤ sl.length ∧ k = .int .i64 q ∧ Hid (Below W.heap.size W wr)) (fun k _ _ _ => sl.length - (intOf k).toNat)
      case atStart => exact ⟨0, Nat.zero_le _, rfl, HW.out⟩
      case round =>
        clear HW
        obtain ⟨q, hq, rfl, HW⟩ := hrel
        have hsw := HW.out.size
        have d1 := (HW.out.cell (p := ⟨lb, lo + m * 2, none⟩) hlb1).trans p1
        have d2 := (HW.out.cell (p := ⟨lb, lo + m * 2 + 1, none⟩) hlb1).trans p2
        by_cases hql : q < sl.length
        · obtain ⟨⟨tx, bx⟩, hy⟩ : ∃ x, sl[q]? = some x := ⟨_, List.getElem?_eq_getElem hql⟩
          obtain ⟨e1, f1, rfl, u1, u2⟩ := samGet (HS1.out.below HW.out (Nat.le_refl _)) hy
          simp only at u1 u2
          have hlbw : lb < wr.heap.size := Nat.lt_of_lt_of_le hlb1 hsw
          have he1w : e1 < wr.heap.size := World.block_lt_of_cell? wr _ u1
          have HAt : Hid (∀ r, AtOf b ll tx r → ∃ u, r = some u ∧ bx ≤ u) := fun r h => HG.out (ll, sl) tx bx r (List.mem_of_getElem? HX.out) (List.mem_of_getElem? hy) h
          have CA : Hid (∀ W2, Below wr.heap.size wr W2 → Calls Tryz.prog 58 #[.slice ba b.length bc, .slice la1 ll.length lc1, .int .i64 tx] W2 fun e w' => ∃ r, AtOf b ll tx r ∧ e = .returned (.tuple #[.int .u64 ((r.getD 0 : Nat) : Int), .bool r.isSome]) ∧ Below wr.heap.size wr w') := fun W2 h2 => by
            have h5 := HW.out.trans (h2.mono hsw)
            exact (kat_any W2 _ _ b ll tx ((HB.out.below h5 (Nat.le_refl _)).wider h5.size) ((HL1.out.below h5 (Nat.le_refl _)).wider h5.size) HSb.out hl1).mono fun e w' ⟨r, h1, h3, h4⟩ => ⟨r, h1, h3, h2.trans (h4.mono h2.size)⟩
          clear hy
          go_wp2
          as_aux_lemma =>
            go_region_held3 (fun w' => w'.cell? ⟨lb, lo + m * 2, none⟩ = some (.slice la1 ll.length lc1) ∧ w'.cell? ⟨lb, lo + m * 2 + 1, none⟩ = some (.slice (some ⟨e1, f1, none⟩) sl.length sc1) ∧ w'.cell? ⟨e1, f1 + q * 2, none⟩ = some (.int .i64 tx)) (go_keep) (first | (go_at_call 58; refine (CA.out _ (by first | exact (Below.refl _ _).drew | exact Below.refl _ _)).mono ?_; rintro e w6 ⟨u, hu, rfl, hb6⟩; have x1 := (hb6.cell (p := ⟨lb, lo + m * 2, none⟩) hlbw).trans d1; have x2 := (hb6.cell (p := ⟨lb, lo + m * 2 + 1, none⟩) hlbw).trans d2; have x3 := (hb6.cell (p := ⟨e1, f1 + q * 2, none⟩) he1w).trans u1) | fail)
            all_goals
              obtain ⟨y, rfl, hby⟩ := HAt.out u hu
              have HW6 : Hid (Below W.heap.size W w6) := HW.out.trans (hb6.mono hsw)
              have x4 := (hb6.cell (p := ⟨e1, f1 + q * 2 + 1, none⟩) he1w).trans u2
              have hbi : ¬ (y : Int) < (bx : Int) := by omega
              have hbd : decide ((y : Int) < (bx : Int)) = false := decide_eq_false hbi
              clear hu hb6 HAt CA HW d1 d2 u1 u2 hby
              go_wp2
              go_roundw
              case rel => exact ⟨q + 1, by omega, by go_num, HW6.out⟩
              case measure => simp [intOf]; omega
        · go_wp2
          go_roundw
          case rel => exact ⟨m + 1, by omega, by go_num, HW.out⟩
          case measure => simp [intOf]; omega
    · go_wp2
      go_ret
      exact ⟨rfl, HW.out⟩
end Go.Proofs.YtamcclcbmenjdaaGreatDoor

/- 'choirkeep.Level', for any list of steps (100 of them are done): when all are up, nothing is under way, and each has told each other one, all have the same, and compacted logs are the same bytes. The first form's statement and its card: no condition beside the row's own. -/
import Derived.Test.YtamcclcbmenjdaaGreatDoorLevelG42
import Derived.Test.YtamcclcbmenjdaaGreatDoorLevelG43
import Derived.Test.YtamcclcbmenjdaaGreatDoorLevelG32
import Derived.Test.YtamcclcbmenjdaaGreatDoorLevelG13
/- What a replica had when it was synced it has behind any crash and restart: pure. -/
namespace Go.Proofs.YtamcclcbmenjdaaGreatDoor
open Go.RowKit Go.Lib

/-- Each sample of B is in one of css, with as many bits or more. -/
def Cover (css : List (List Ser)) (B : List Ser) : Prop := ∀ l t v, Holds B l t v → ∃ b ∈ css, ∃ u, v ≤ u ∧ Holds b l t u
theorem Cover.nil (css : List (List Ser)) : Cover css [] := fun l t v hh => by obtain ⟨s, hs, _⟩ := hh; cases hs
theorem rowB_cons (b : List Ser) (r : List (List Ser)) : rowB (b :: r) = frameOf (payload b) ++ rowB r := by simp [rowB]
theorem rowB_prefix {css dss : List (List Ser)} (h : css <+: dss) : rowB css <+: rowB dss := by
  obtain ⟨t, rfl⟩ := h
  exact ⟨rowB t, by simp [rowB]⟩
theorem row_ge : ∀ (css : List (List Ser)), (∀ b ∈ css, BatchOk b ∧ LimitsOk b ∧ InRange b) → ∀ (s : List UInt8), rowB css <+: s → ∀ {dss : List (List Ser)} {n : Nat}, RowOf s dss n → css <+: dss
  | [], _, _, _, _, _, _ => List.nil_prefix
  | b :: r, hok, s, hp, dss, n, hr => by
    obtain ⟨h1, h2, h3⟩ := hok b (by simp)
    have hf := frame_is b h1 h2 h3
    rw [rowB_cons] at hp
    obtain ⟨s', rfl⟩ : frameOf (payload b) <+: s := (List.prefix_append _ _).trans hp
    have hff := ff_frame (rest := s') hf.1.opens
    have hp' : rowB r <+: s' := (List.prefix_append_right_inj _).1 hp
    cases hr using RowOf.two with
    | stop h => rw [hff] at h; exact absurd hf.1 h
    | next cs m h hr' =>
      rw [hff, List.drop_left] at hr'
      obtain ⟨t, ht⟩ := row_ge r (fun x hx => hok x (by simp [hx])) s' hp' hr'
      rw [hff, hf.2]
      exact ⟨t, by rw [← ht]; rfl⟩
/-- A replica's log: the frames of bss; those of css are synced; they cover B. -/
structure Logs (bss css : List (List Ser)) (B : List Ser) (r : RS) : Prop where
  ok : ∀ b ∈ bss, BatchOk b ∧ LimitsOk b ∧ InRange b
  pre : ∀ dss, dss <+: bss → ∀ j, IsJoin dss j → LimitsOk j
  log : logB r.log <+: rowB bss
  up : r.up = true → logB r.log = rowB bss ∧ IsJoin bss r.bs
  part : css <+: bss
  len : rowB css <+: logB r.log
  la : (rowB css).length ≤ r.la
  cov : Cover css B
def Lasting (B : List Ser) (r : RS) : Prop := ∃ bss css, Logs bss css B r
theorem last_r0 : Lasting [] r0 := ⟨[], [], fun b hb => (by cases hb), fun dss hd j hj => by
  have e : dss = [] := by simpa using hd
  subst e
  rw [hj.unique IsJoin.none]; exact ok_nil.2.1, List.prefix_refl _, fun _ => ⟨rfl, IsJoin.none⟩, List.prefix_refl _, List.prefix_refl _, Nat.zero_le _, Cover.nil _⟩
theorem last_write {B b : List Ser} {r r' : RS} {n : Nat} (h : Lasting B r) (hu : r.up = true) (hr : InRange b) (hw : WriteOf r b n r') : Lasting B r' := by
  rcases hw with ⟨_, _, rfl⟩ | ⟨hc0, j, hj, hc, ⟨_, rfl⟩ | ⟨_, _, rfl⟩ | ⟨rfl, _, rfl⟩⟩
  · exact h
  · exact h
  · exact h
  · obtain ⟨bss, css, h⟩ := h
    obtain ⟨g1, g2⟩ := code0 hc0
    obtain ⟨u1, u2⟩ := h.up hu
    have hjn : IsJoin (bss ++ [b]) j := u2.group hj (fun x hx => (h.ok x hx).1)
    have e : logB (frB b :: r.log) = rowB (bss ++ [b]) := by
      rw [logB_cons, u1, rowB_snoc]
      unfold frB
      rw [BA_list]
    refine ⟨bss ++ [b], css, fun x hx => ?_, fun dss hd j' hj' => ?_, ?_, fun _ => ⟨e, hjn⟩, h.part.trans (List.prefix_append _ _), ?_, h.la, h.cov⟩
    · rcases List.mem_append.1 hx with hx | hx
      · exact h.ok x hx
      · rw [List.mem_singleton.1 hx]; exact ⟨g1, g2, hr⟩
    · rcases List.prefix_concat_iff.1 hd with rfl | hd
      · rw [hj'.unique hjn]; exact (code0 hc).2
      · exact h.pre dss hd j' hj'
    · show logB (frB b :: r.log) <+: _
      rw [e]; exact List.prefix_refl _
    · show rowB css <+: logB (frB b :: r.log)
      rw [logB_cons]; exact h.len.trans (List.prefix_append _ _)
theorem last_crash {B : List Ser} {r : RS} (h : Lasting B r) (keep : Int) : Lasting B (crashOf r keep) := by
  obtain ⟨bss, css, h⟩ := h
  have hk : r.la ≤ keptN r keep := by unfold keptN; omega
  have hla := h.la
  refine ⟨bss, css, h.ok, h.pre, ?_, fun e => (by cases e), h.part, ?_, ?_, h.cov⟩
  · show logB [BA _] <+: _
    rw [logB_one]
    exact (List.take_prefix _ _).trans h.log
  · show rowB css <+: logB [BA _]
    rw [logB_one]
    refine List.prefix_of_prefix_length_le h.len (List.take_prefix _ _) ?_
    have := h.len.length_le
    rw [List.length_take]
    omega
  · show (rowB css).length ≤ keptN r keep
    omega
theorem last_restart {B : List Ser} {r r' : RS} {n : Nat} (h : Lasting B r) (hr : RestartOf r n r') : Lasting B r' := by
  rcases hr with ⟨_, _, rfl⟩ | ⟨_, _, dss, z, j, m, hrow, hj, hc, rfl⟩
  · exact h
  · obtain ⟨bss, css, h⟩ := h
    obtain ⟨i1, i2⟩ := row_of bss h.ok _ h.log hrow
    have i3 := row_ge css (fun b hb => h.ok b (h.part.subset hb)) _ h.len hrow
    have hm : m = 0 := hc.uni (.inr (.inr ⟨rfl, hj.ok, h.pre dss i1 j hj⟩))
    subst hm
    have e : logB [BA ((logB r.log).take z)] = rowB dss := by rw [logB_one, i2]
    refine ⟨dss, css, fun b hb => h.ok b (i1.subset hb), fun d hd j' hj' => h.pre d (hd.trans i1) j' hj', ?_, fun _ => ⟨e, hj⟩, i3, ?_, ?_, h.cov⟩
    · show logB [BA _] <+: _
      rw [e]; exact List.prefix_refl _
    · show _ <+: logB [BA _]
      rw [e]; exact rowB_prefix i3
    · show (rowB css).length ≤ z
      have h1 := (rowB_prefix i3).length_le
      rw [i2, List.length_take] at h1
      omega
theorem last_sync {B : List Ser} {r : RS} (h : Lasting B r) : Lasting B { r with la := logSize r.log } := by
  obtain ⟨bss, css, h⟩ := h
  refine ⟨bss, css, h.ok, h.pre, h.log, h.up, h.part, h.len, ?_, h.cov⟩
  show (rowB css).length ≤ logSize r.log
  rw [← logB_length]; exact h.len.length_le
theorem sync_all {B : List Ser} {r : RS} (h : Lasting B r) (hu : r.up = true) : Lasting r.bs { r with la := logSize r.log } := by
  obtain ⟨bss, css, h⟩ := h
  obtain ⟨u1, u2⟩ := h.up hu
  refine ⟨bss, bss, h.ok, h.pre, h.log, h.up, List.prefix_refl _, by show _ <+: logB r.log; rw [u1]; exact List.prefix_refl _, ?_, fun l t v hh => ?_⟩
  · show (rowB bss).length ≤ logSize r.log
    rw [← logB_length, u1]; exact Nat.le_refl _
  · obtain ⟨⟨b, hb, h1⟩, _⟩ := (u2.holds l t v).1 hh
    exact ⟨b, hb, v, Nat.le_refl _, h1⟩
theorem compact_all {M : Nat} {r : RS} (hk : RepOk M r) : Lasting r.bs (compactOf r) := by
  by_cases e : r.bs = []
  · have e2 : compactOf r = { r with log := [], la := logSize [] } := by unfold compactOf; rw [if_pos e]
    rw [e2]
    refine ⟨[], [], fun b hb => (by cases hb), fun dss hd j hj => ?_, List.prefix_refl _, fun _ => ⟨rfl, by show IsJoin [] r.bs; rw [e]; exact IsJoin.none⟩, List.prefix_refl _, List.prefix_refl _, Nat.zero_le _, by rw [e]; exact Cover.nil _⟩
    have e3 : dss = [] := by simpa using hd
    subst e3
    rw [hj.unique IsJoin.none]; exact ok_nil.2.1
  · have e2 : compactOf r = { r with log := [frB r.bs], la := logSize [frB r.bs] } := by unfold compactOf; rw [if_neg e]
    have e3 : logB [frB r.bs] = rowB [r.bs] := by
      show logB [BA _] = _
      rw [logB_one, rowB_cons]; simp [rowB]
    rw [e2]
    refine ⟨[r.bs], [r.bs], fun b hb => by rw [List.mem_singleton.1 hb]; exact ⟨hk.ok, hk.lim, hk.rng⟩, fun dss hd j hj => ?_, by show logB [frB r.bs] <+: _; rw [e3]; exact List.prefix_refl _, fun _ => ⟨e3, IsJoin.one hk.ok⟩, List.prefix_refl _, by show _ <+: logB [frB r.bs]; rw [e3]; exact List.prefix_refl _, ?_, fun l t v hh => ⟨r.bs, by simp, v, Nat.le_refl _, hh⟩⟩
    · rcases List.prefix_concat_iff.1 (show dss <+: [] ++ [r.bs] from hd) with rfl | hd
      · rw [hj.unique (IsJoin.one hk.ok)]; exact hk.lim
      · have e4 : dss = [] := by simpa using hd
        subst e4
        rw [hj.unique IsJoin.none]; exact ok_nil.2.1
    · show (rowB [r.bs]).length ≤ logSize [frB r.bs]
      rw [← logB_length, e3]; exact Nat.le_refl _
theorem last_put {B : List Ser} {S : CS} {j k : Nat} {r' : RS} (hj : k = j → Lasting B r') (h : Lasting B (S.r k)) : Lasting B ((S.put j r').r k) := by
  by_cases e : k = j
  · have e2 : (S.put j r').r k = r' := by simp [CS.put, e]
    rw [e2]; exact hj e
  · have e2 : (S.put j r').r k = S.r k := by simp [CS.put, e]
    rw [e2]; exact h
theorem step_last {B b : List Ser} {S S' : CS} (hs : StepOf S S' b) {k : Nat} (h : Lasting B (S.r k)) : Lasting B (S'.r k) := by
  cases hs using StepOf.elim with
  | stay => exact h
  | sync j hj => exact last_put (fun e => by subst e; split; exact last_sync h; exact h) h
  | push => exact h
  | deliver i n S' hd =>
    rcases hd with ⟨_, rfl, _⟩ | ⟨_, q, m, r', _, hm, hr, rfl⟩
    · exact h
    · refine last_put (S := ⟨S.r, S.ms.eraseIdx q⟩) (fun e => ?_) h
      subst e
      rcases hr with ⟨_, rfl⟩ | ⟨hu, _, n, hw⟩
      · exact h
      · exact last_write h hu (got_range _) hw
  | drop => exact h
  | twice => exact h
  | spoil => exact h
  | crash j keep hj => exact last_put (fun e => by subst e; split; exact last_crash h keep; exact h) h
  | restart j n r' hj hr => exact last_put (fun e => by subst e; exact last_restart h hr) h
  | write j n b r' hj hu hw h1 h2 h3 => exact last_put (fun e => by subst e; exact last_write h hu h3 hw) h
/-- Behind a restart all that is covered is there. -/
theorem last_grows {B : List Ser} {r : RS} (h : Lasting B r) (hu : r.up = true) : Grows B r.bs := fun l t v hh => by
  obtain ⟨bss, css, h⟩ := h
  obtain ⟨_, u2⟩ := h.up hu
  obtain ⟨b, hb, u, hvu, h1⟩ := h.cov l t v hh
  have hb2 := h.part.subset hb
  obtain ⟨w, hw⟩ := holds_max (fun bs hbs => (h.ok bs hbs).1) l t ⟨b, hb2, u, h1⟩
  exact ⟨w, Nat.le_trans hvu (hw.2 b hb2 u h1), (u2.holds l t w).2 hw⟩
theorem restart_up {r r' : RS} {n : Nat} (hr : RestartOf r n r') : r'.up = true := by
  rcases hr with ⟨h, _, rfl⟩ | ⟨_, _, _, _, _, _, _, _, _, rfl⟩
  · exact h
  · rfl
theorem restart_down {r r' : RS} {n : Nat} (hd : r.up = false) (hr : RestartOf r n r') : n = 0 ∧ r'.la = logSize r'.log := by
  rcases hr with ⟨h, _, rfl⟩ | ⟨_, hn, bss, z, j, m, hrow, _, _, rfl⟩
  · rw [hd] at h; cases h
  · refine ⟨hn, ?_⟩
    show z = logSize [BA _]
    rw [← logB_length, logB_one, List.length_take]
    have := row_le hrow
    omega
theorem again_same {B : List Ser} {r r' : RS} {n : Nat} {again : Int} (h : Lasting B r) (hu : r.up = true) (hla : r.la = logSize r.log) (hr : RestartOf (crashOf r again) n r') : n = 0 ∧ r'.up = true ∧ r'.bs = r.bs ∧ logB r'.log = logB r.log := by
  obtain ⟨bss, css, h⟩ := h
  obtain ⟨u1, u2⟩ := h.up hu
  have hkn : keptN r again = logSize r.log := by unfold keptN; omega
  have hlog : logB (crashOf r again).log = rowB bss := by
    show logB [BA _] = _
    rw [logB_one, hkn, ← logB_length, List.take_length, u1]
  rcases hr with ⟨e, _, _⟩ | ⟨_, hn, dss, z, j, m, hrow, hj, hc, rfl⟩
  · cases e
  · rw [hlog] at hrow
    obtain ⟨i1, i2⟩ := row_of bss h.ok _ (List.prefix_refl _) hrow
    have i3 := row_ge bss h.ok _ (List.prefix_refl _) hrow
    have e : dss = bss := i1.eq_of_length (Nat.le_antisymm i1.length_le i3.length_le)
    subst e
    have ej := hj.unique u2
    subst ej
    have hm : m = 0 := hc.uni (.inr (.inr ⟨rfl, hj.ok, h.pre dss (List.prefix_refl _) _ hj⟩))
    subst hm
    refine ⟨hn, rfl, rfl, ?_⟩
    show logB [BA ((logB (crashOf r again).log).take z)] = _
    rw [logB_one, hlog, ← i2, u1]
end Go.Proofs.YtamcclcbmenjdaaGreatDoor

/- Where Lasts stands. -/
namespace Go.Proofs.YtamcclcbmenjdaaGreatDoor
open Go.RowKit Go.Lib

structure LInv (W w : World) (S : CS) (M : Nat) (B : Nat → List Ser) : Prop where
  clu : CluAt w W.heap.size S
  ok : CSOk M S
  last : ∀ k, k < 3 → Lasting (B k) (S.r k)
  tabs : Tabs w
  below : Below W.heap.size W w
  two : 2 < W.heap.size
theorem Tabs.turn {w w' : World} {cb lo hi : Nat} (h : Tabs w) (ht : Turn w w' cb lo hi) (hc : 2 < cb) : Tabs w' := by
  have := h.lt
  exact h.kept (ht.block _ (by omega) (by omega)) (ht.block _ (by omega) (by omega))
theorem Turn.below {W w w' : World} {lo hi : Nat} (h : Below W.heap.size W w) (ht : Turn w w' W.heap.size lo hi) : Below W.heap.size W w' :=
  h.trans ⟨ht.os, ht.tape, ht.output, ht.size, fun k hk => ht.block k (Nat.lt_of_lt_of_le hk h.size) (by omega)⟩
section
variable {W w w' : World} {M : Nat} {S : CS} {B : Nat → List Ser}
theorem LInv.kept (h : LInv W w S M B) (hb : Below w.heap.size w w') : LInv W w' S M B :=
  ⟨h.clu.below hb, h.ok, h.last, h.tabs.below hb (by have := h.tabs.lt; omega), h.below.trans (hb.mono h.below.size), h.two⟩
theorem LInv.step (h : LInv W w S M B) {S' : CS} {b : List Ser} (hs : StepOf S S' b) (hc : CluAt w' W.heap.size S') (ht : Turn w w' W.heap.size 0 136) : LInv W w' S' (M + 60011) B :=
  ⟨hc, step_ok h.ok hs, fun k hk => step_last hs (h.last k hk), h.tabs.turn ht h.two, ht.below h.below, h.two⟩
theorem LInv.put (h : LInv W w S M B) {k : Nat} {r' : RS} {sv lp : Value} {B' : List Ser} (hk : k < 3) (hr : RepAt w' W.heap.size (k * 5) r' sv lp) (ht : Turn w w' W.heap.size (k * 5) (k * 5 + 5)) (ho : RepOk M r') (hl : Lasting B' r') :
    LInv W w' (S.put k r') M (fun j => if j = k then B' else B j) := by
  refine ⟨h.clu.rep1 hk hr ht, h.ok.put ho, fun j hj => ?_, h.tabs.turn ht h.two, ht.below h.below, h.two⟩
  by_cases e : j = k
  · subst e
    have e2 : (S.put j r').r j = r' := by simp [CS.put]
    rw [e2]; simp only [if_pos]; exact hl
  · have e2 : (S.put k r').r j = S.r j := by simp [CS.put, e]
    rw [e2]; simp only [if_neg e]; exact h.last j hj
end
theorem compact_ok {M : Nat} {r : RS} (h : RepOk M r) (hM : 60011 ≤ M) : RepOk M (compactOf r) := by
  refine ⟨h.ok, h.lim, h.rng, ?_, Nat.le_refl _⟩
  show logSize (if r.bs = [] then [] else [frB r.bs]) ≤ M
  split
  · exact Nat.zero_le _
  · have := frB_size (fits_of h.ok h.lim)
    simp [logSize]; omega
theorem put_r (S : CS) (k : Nat) (r' : RS) : (S.put k r').r k = r' := by simp [CS.put]
end Go.Proofs.YtamcclcbmenjdaaGreatDoor

/- choirkeep's joined. -/
namespace Go.Proofs.YtamcclcbmenjdaaGreatDoor
open Go.RowKit Go.Lib

theorem two_ranged {w : World} {B : Nat} {va vb : Value} {a b j : List Ser} (ha : BatchAt w B va a) (hb : BatchAt w B vb b) (hj : IsJoin [a, b] j) : ∀ s ∈ j, Ranged s := fun s hs x hx => by
  obtain ⟨⟨bs, hbs, r, hr, _, hm⟩, _⟩ := (hj.holds s.1 x.1 x.2).1 ⟨s, hs, rfl, hx⟩
  rcases List.mem_cons.1 hbs with e | hbs
  · rw [e] at hr; exact ha.ranged r hr _ hm
  · rw [List.mem_singleton.1 hbs] at hr; exact hb.ranged r hr _ hm
set_option maxRecDepth 100000 in
set_option maxHeartbeats 1000000 in
theorem kjoined_any (W : World) (va vb : Value) (a b : List Ser) (ha : BatchAt W W.heap.size va a) (hb : BatchAt W W.heap.size vb b) (hsa : Small a) (hsb : Small b) (oa : BatchOk a) (ob : BatchOk b) (la : LimitsOk a) (lb : LimitsOk b) (hlim : ∀ j, IsJoin [a, b] j → LimitsOk j) :
    Calls Tryz.prog 14 #[va, vb] W fun e w' => ∃ jv j, IsJoin [a, b] j ∧ e = .returned (.tuple #[jv, .bool true]) ∧ BatchAt w' w'.heap.size jv j ∧ LimitsOk j ∧ Below W.heap.size W w' := by
  have C := hide (join_any W va vb a b ha hb hsa hsb)
  have HA := hide ha
  have HB := hide hb
  obtain ⟨aa, ac, rfl, -⟩ := id ha
  obtain ⟨ba, bc, rfl, -⟩ := id hb
  clear ha hb
  go_enter Tryz.func14, Tryz.ntmps14
  go_wp2_with fail
  refine C.out.mono ?_
  rintro e w2 ⟨n, j, hj, hb2, hr⟩
  obtain ⟨hJ, hC⟩ : IsJoin [a, b] j ∧ Code j n := by
    rcases hj with ⟨_, h⟩ | ⟨_, _, _, h⟩ | ⟨_, _, _, _, h⟩
    · exact absurd ⟨oa, ob⟩ h
    · exact absurd ⟨la, lb⟩ h
    · exact h
  have hL := hlim j hJ
  obtain rfl : n = 0 := by
    rcases hC with ⟨_, h⟩ | ⟨_, _, h⟩ | ⟨h, _⟩
    · exact absurd hJ.ok h
    · exact absurd hL h
    · exact h
  rcases hr with ⟨_, jv, rfl, hF⟩ | ⟨h, _⟩
  · have hA : BatchAt w2 w2.heap.size jv j := hF.batchAt (two_ranged HA.out HB.out hJ)
    have HR : Hid (IsJoin [a, b] j ∧ BatchAt w2 w2.heap.size jv j ∧ LimitsOk j ∧ Below W.heap.size W w2) := ⟨hJ, hA, hL, hb2⟩
    clear hj hb2 hJ hC hL hF hA C HA HB hlim
    go_wp2
    go_ret2
    exact ⟨_, j, HR.out.1, rfl, HR.out.2⟩
  · exact absurd rfl h
end Go.Proofs.YtamcclcbmenjdaaGreatDoor

/- Contracts that Level wants: Drop at 0, joined where the join may be too great. -/
namespace Go.Proofs.YtamcclcbmenjdaaGreatDoor
open Go.RowKit Go.Lib

def Drop0End (W w' : World) (cb : Nat) (ms : List Msg) (e : Ending) : Prop := ∃ n : Nat, e = .returned (.int .i64 n) ∧ WayAt w' cb ms.tail ∧ Turn W w' cb 15 136
set_option maxRecDepth 100000 in
set_option maxHeartbeats 1000000 in
theorem cDrop0_any (W : World) (cb : Nat) (ms : List Msg) (h : WayAt W cb ms) :
    Calls Tryz.prog 29 #[.pointer (some ⟨cb, 0, none⟩), .int .i64 0] W fun e w' => Drop0End W w' cb ms e := by
  have C := hide (ctake_any W cb 0 ms h)
  have hlt := h.lt
  clear h
  go_enter Tryz.func29, Tryz.ntmps29
  go_wp2_with fail
  refine C.out.mono ?_
  rintro e w1 ⟨n, ms', fr, to, b, rfl, hr, hw1, ht1⟩
  have e1 : ms' = ms.tail := by
    rcases hr with ⟨_, h, hn⟩ | ⟨_, k, _, hk, _, h, _⟩
    · have h0 : ms = [] := by
        cases ms with
        | nil => rfl
        | cons a r => exact absurd ⟨Int.le_refl _, by simp⟩ hn
      rw [h, h0]; rfl
    · obtain rfl : k = 0 := by omega
      rw [h, List.eraseIdx_zero]
  have HEnd : Hid (∀ w', Below w1.heap.size w1 w' → Drop0End W w' cb ms (.returned (.int .i64 n))) := fun w' hb => ⟨n, rfl, by rw [← e1]; exact hw1.below hb, ht1.trans (Turn.of_below hb hw1.lt)⟩
  clear hr hw1 ht1 C e1
  go_wp2
  go_ret
  exact HEnd.out _ (by first | exact (Below.refl _ _).alloc (Nat.le_refl _) _ | exact Below.refl _ _)
def JoinedEnd (W w' : World) (a b : List Ser) (e : Ending) : Prop := ∃ j, IsJoin [a, b] j ∧ Below W.heap.size W w' ∧ ((¬ LimitsOk j ∧ e = .returned (.tuple #[.slice none 0 0, .bool false])) ∨ (LimitsOk j ∧ ∃ x c, e = .returned (.tuple #[.slice x j.length c, .bool true]) ∧ Fresh w' W.heap.size (.slice x j.length c) j))
set_option maxRecDepth 100000 in
set_option maxHeartbeats 1000000 in
theorem kjoined_gen (W : World) (va vb : Value) (a b : List Ser) (ha : BatchAt W W.heap.size va a) (hb : BatchAt W W.heap.size vb b) (hsa : Small a) (hsb : Small b) (oa : BatchOk a) (ob : BatchOk b) (la : LimitsOk a) (lb : LimitsOk b) :
    Calls Tryz.prog 14 #[va, vb] W fun e w' => JoinedEnd W w' a b e := by
  have C := hide (join_any W va vb a b ha hb hsa hsb)
  obtain ⟨aa, ac, rfl, -⟩ := id ha
  obtain ⟨ba, bc, rfl, -⟩ := id hb
  clear ha hb
  go_enter Tryz.func14, Tryz.ntmps14
  go_wp2_with fail
  refine C.out.mono ?_
  rintro e w2 ⟨n, j, hj, hb2, hr⟩
  obtain ⟨hJ, hC⟩ : IsJoin [a, b] j ∧ Code j n := by
    rcases hj with ⟨_, h⟩ | ⟨_, _, _, h⟩ | ⟨_, _, _, _, h⟩
    · exact absurd ⟨oa, ob⟩ h
    · exact absurd ⟨la, lb⟩ h
    · exact h
  rcases hr with ⟨rfl, jv, rfl, hF⟩ | ⟨h0, rfl⟩
  · obtain ⟨x, c, rfl⟩ := fresh_shape hF.fresh
    have HE : Hid (JoinedEnd W w2 a b (.returned (.tuple #[.slice x j.length c, .bool true]))) := ⟨j, hJ, hb2, .inr ⟨(code0 hC).2, x, c, rfl, hF.fresh⟩⟩
    clear hj hb2 hJ hC hF C
    go_wp2
    go_ret2
    exact HE.out
  · have HE : Hid (JoinedEnd W w2 a b (.returned (.tuple #[.slice none 0 0, .bool false]))) := ⟨j, hJ, hb2, .inl ⟨fun hl => h0 (hC.uni (.inr (.inr ⟨rfl, hJ.ok, hl⟩))), rfl⟩⟩
    have h0i : ¬ (n : Int) = 0 := by omega
    have h0b : ((n : Int) == 0) = false := beq_eq_false_iff_ne.2 h0i
    clear hj hb2 hJ hC C
    go_wp2
    go_ret2
    exact HE.out
/-- Where Level stands while it does the steps: the row av with n series. -/
structure LvInv (W w : World) (S : CS) (M : Nat) (av : Value) (n : Nat) : Prop where
  inv : LInv W w S M (fun _ => [])
  row : ∃ vals : List (Value × Value), w.ownsRow (W.heap.size + 1) 38 2 av n (serCells vals)
  apart : Apart w W.heap.size av.ownBlock.toList
section
variable {W w w' : World} {M n : Nat} {S : CS} {av : Value}
theorem LvInv.lt (h : LvInv W w S M av n) : ∀ k, av.ownBlock = some k → W.heap.size + 1 ≤ k ∧ k < w.heap.size := by
  obtain ⟨vals, ho⟩ := h.row
  exact fun k e => World.ownsRow.lt ho k e
theorem LvInv.act (h : LvInv W w S M av n) {S' : CS} {b : List Ser} (hs : StepOf S S' b) (hc : CluAt w' W.heap.size S') (ht : Turn w w' W.heap.size 0 136) : LvInv W w' S' (M + 60011) av n := by
  obtain ⟨vals, ho⟩ := h.row
  refine ⟨h.inv.step hs hc ht, ⟨vals, own_kept ho fun k e => ht.block k (h.lt k e).2 (by have := (h.lt k e).1; omega)⟩, h.apart.turn ht fun k hk => (h.lt k (by simpa using hk)).2⟩
theorem LvInv.app {b : List Ser} {vals us : List (Value × Value)} {av' : Value} (h : LvInv W w S M av n) (ho0 : w.ownsRow (W.heap.size + 1) 38 2 av n (serCells vals))
    (ho : w'.ownsRow (W.heap.size + 1) 38 2 av' (n + b.length) (serCells vals ++ serCells us)) (hg : w.grownBy w' av.ownBlock) (hh : Heir w av av') : LvInv W w' S M av' (n + b.length) := by
  have hst : Stay av.ownBlock.toList w w' := Stay.grown hg fun k e => by simp [e]
  have hcn : W.heap.size ∉ av.ownBlock.toList := fun hm => by have := (h.lt _ (by simpa using hm)).1; omega
  have hal : ∀ k ∈ av.ownBlock.toList, Alien w k := fun k hk cur e f hh => by
    have ek : av.ownBlock = some k := by simpa using hk
    rcases ho0.2 with ⟨rfl, _⟩ | ⟨g, cap, cur', rfl, _, hg, _⟩
    · cases ek
    · cases ek
      have hg' : w.heap[g]? = some (.cells cur' 38 (0, 0)) := hg
      have hh' : w.heap[g]? = some (.cells cur e f) := hh
      rw [hg'] at hh'
      cases hh'
      decide
  have hnew : ∀ k, av'.ownBlock = some k → av.ownBlock = some k ∨ w.heap.size ≤ k := fun k e => by
    rcases hh with h1 | ⟨q, h1, h3⟩
    · exact .inl (h1 ▸ e)
    · rw [h1] at e; cases e; exact .inr h3
  have hblk : ∀ k, k < w.heap.size → av.ownBlock ≠ some k → w'.heap[k]? = w.heap[k]? := fun k h1 h3 => hg.block k h1 fun e => h3 e.symm
  have hcbw : w'.heap[W.heap.size]? = w.heap[W.heap.size]? := hblk _ h.inv.clu.way.lt fun e => by have := (h.lt _ e).1; omega
  refine ⟨⟨h.inv.clu.stay hst hcn hal h.apart, h.inv.ok, h.inv.last, hst.tabs h.inv.tabs fun k hk => by have := (h.lt _ (by simpa using hk)).1; have := h.inv.two; omega, h.inv.below.trans ⟨hg.os, hg.tape, hg.output, hg.size, fun k hk => hblk k (by have := h.inv.below.size; omega) fun e => by have := (h.lt _ e).1; omega⟩, h.inv.two⟩, ⟨vals ++ us, by rw [serCells_app]; exact ho⟩, fun j v k hj hc hk hm => ?_⟩
  have hc' : w.cell? ⟨W.heap.size, j * 5 + 1, none⟩ = some v := (World.cell?_of_block (a := ⟨W.heap.size, j * 5 + 1, none⟩) hcbw).symm.trans hc
  have h3 := h.inv.clu.lt1 hj hc' hk
  have h4 := h.apart j v k hj hc' hk
  have e : av'.ownBlock = some k := by simpa using hm
  rcases hnew k e with e2 | e2
  · exact h4 (by simp [e2])
  · omega
end
theorem LInv.way {W w w' : World} {M : Nat} {S : CS} {B : Nat → List Ser} (h : LInv W w S M B) {ms' : List Msg} (hw : WayAt w' W.heap.size ms') (ht : Turn w w' W.heap.size 15 136) (hm : ∀ m ∈ ms', m ∈ S.ms) : LInv W w' ⟨S.r, ms'⟩ M B :=
  ⟨h.clu.way1 hw ht, h.ok.way fun m hx => h.ok.msg m (hm m hx), h.last, h.tabs.turn ht h.two, ht.below h.below, h.two⟩
theorem LInv.mono {W w : World} {M M' : Nat} {S : CS} {B : Nat → List Ser} (h : LInv W w S M B) (hM : M ≤ M') : LInv W w S M' B := ⟨h.clu, h.ok.mono hM, h.last, h.tabs, h.below, h.two⟩
end Go.Proofs.YtamcclcbmenjdaaGreatDoor

/- Sound's invariant. -/
namespace Go.Proofs.YtamcclcbmenjdaaGreatDoor
open Go.RowKit Go.Lib

/-- The blocks that turn while Sound runs. -/
def KA (cb bb : Nat) (av : Value) : List Nat := cb :: bb :: av.ownBlock.toList
/-- Where Sound stands: the cluster S; the row av with the series A; A' has been written; before: the lists bv, which read bl. -/
structure SInv (W w : World) (bb : Nat) (av : Value) (S : CS) (A A' : List Ser) (M : Nat) (bv : Nat → Value) (bl : Nat → List Ser) : Prop where
  clu : CluAt w W.heap.size S
  ok : CSOk M S
  snd : CSnd A' S
  all : AllOf (KA W.heap.size bb av) w (W.heap.size + 1) av A
  aok : ∀ s ∈ A', s.1.length ≤ 4 ∧ s.2.length ≤ 40 ∧ s.2.Pairwise SLt
  apart : Apart w W.heap.size (bb :: av.ownBlock.toList)
  bef : Blk w bb 57 [bv 0, bv 1, bv 2]
  safe : ∀ r, r < 3 → SafeK (KA W.heap.size bb av) w (bv r) (bl r)
  lim : ∀ r, r < 3 → LimitsOk (bl r)
  grow : ∀ r, r < 3 → (S.r r).up = true → Grows (bl r) (S.r r).bs
  tabs : Tabs w
  cbb : W.heap.size < bb
  nbb : av.ownBlock ≠ some bb
  below : Below W.heap.size W w
  two : 2 < W.heap.size
section
variable {W w w' : World} {bb M : Nat} {av : Value} {S : CS} {A A' : List Ser} {bv : Nat → Value} {bl : Nat → List Ser}
theorem SInv.row (h : SInv W w bb av S A A' M bv bl) {k : Nat} (hk : k ∈ av.ownBlock.toList) : W.heap.size < k ∧ k < w.heap.size := by
  have e : av.ownBlock = some k := by simpa using hk
  have := h.all.lt k e
  omega
theorem SInv.mem (h : SInv W w bb av S A A' M bv bl) {k : Nat} (hk : k ∈ KA W.heap.size bb av) : W.heap.size ≤ k ∧ k < w.heap.size := by
  rcases List.mem_cons.1 hk with rfl | hk
  · exact ⟨Nat.le_refl _, h.clu.way.lt⟩
  · rcases List.mem_cons.1 hk with rfl | hk
    · exact ⟨Nat.le_of_lt h.cbb, h.bef.lt⟩
    · have := h.row hk; omega
theorem SInv.cell (h : SInv W w bb av S A A' M bv bl) {r : Nat} (hr : r < 3) : w.cell? ⟨bb, r, none⟩ = some (bv r) := by
  have e : r = 0 ∨ r = 1 ∨ r = 2 := by omega
  rcases e with rfl | rfl | rfl
  · exact h.bef.cell (i := 0) rfl
  · exact h.bef.cell (i := 1) rfl
  · exact h.bef.cell (i := 2) rfl
theorem SInv.alien (h : SInv W w bb av S A A' M bv bl) : ∀ k ∈ bb :: av.ownBlock.toList, Alien w k := fun k hk cur e f hh => by
  rcases List.mem_cons.1 hk with rfl | hk
  · have h1 := h.bef
    unfold Blk at h1
    rw [h1] at hh
    cases hh
    decide
  · have ek : av.ownBlock = some k := by simpa using hk
    obtain ⟨vals, _, ho, _⟩ := h.all
    rcases ho.2 with ⟨rfl, _⟩ | ⟨g, cap, cur', rfl, _, hg, _⟩
    · cases ek
    · cases ek
      have hg' : w.heap[g]? = some (.cells cur' 38 (0, 0)) := hg
      have hh' : w.heap[g]? = some (.cells cur e f) := hh
      rw [hg'] at hh'
      cases hh'
      decide
theorem SInv.kept (h : SInv W w bb av S A A' M bv bl) (hb : Below w.heap.size w w') : SInv W w' bb av S A A' M bv bl := by
  have hst : Stay (KA W.heap.size bb av) w w' := Stay.below hb
  exact ⟨h.clu.below hb, h.ok, h.snd, h.all.step hst fun k e => hb.block k (h.all.lt k e).2, h.aok, h.apart.kept (hb.block _ h.clu.way.lt), h.bef.kept (hb.block _ h.bef.lt), fun r hr => (h.safe r hr).step hst fun k hk => .inl hk, h.lim, h.grow,
    h.tabs.below hb (by have := h.tabs.lt; omega), h.cbb, h.nbb, h.below.trans (hb.mono h.below.size), h.two⟩
/-- before[q] = x. -/
theorem SInv.store (h : SInv W w bb av S A A' M bv bl) {q : Nat} (hq : q < 3) {x : Value} {y : List Ser} (hx : SafeK (KA W.heap.size bb av) w x y) (hl : LimitsOk y) (hg : (S.r q).up = true → Grows y (S.r q).bs) :
    SInv W (w.setCell ⟨bb, q, none⟩ x) bb av S A A' M (fun r => if r = q then x else bv r) (fun r => if r = q then y else bl r) := by
  have hst : Stay (KA W.heap.size bb av) w (w.setCell ⟨bb, q, none⟩ x) := Stay.set w bb q x (by simp [KA])
  have hst2 : Stay (bb :: av.ownBlock.toList) w (w.setCell ⟨bb, q, none⟩ x) := Stay.set w bb q x (by simp)
  have hcb := h.cbb
  have hne : ∀ k, k ≠ bb → (w.setCell ⟨bb, q, none⟩ x).heap[k]? = w.heap[k]? := fun k hk => Below.heap_setCell w ⟨bb, q, none⟩ x k hk
  have hcn : W.heap.size ∉ bb :: av.ownBlock.toList := fun hm => by
    rcases List.mem_cons.1 hm with e | hm
    · omega
    · have := (h.row hm).1; omega
  refine ⟨h.clu.stay hst2 hcn h.alien h.apart, h.ok, h.snd, h.all.step hst fun k e => hne k (fun e2 => h.nbb (e2 ▸ e)), h.aok, h.apart.kept (hne _ (by omega)), ?_, fun r hr => ?_, fun r hr => ?_, fun r hr hu => ?_, ?_, h.cbb, h.nbb, h.below.setCell (p := ⟨bb, q, none⟩) (Nat.le_of_lt hcb) x, h.two⟩
  · have h1 := h.bef.set q x
    have e : q = 0 ∨ q = 1 ∨ q = 2 := by omega
    rcases e with rfl | rfl | rfl <;> exact h1
  · by_cases e : r = q
    · simp only [if_pos e]; exact hx.step hst fun k hk => .inl hk
    · simp only [if_neg e]; exact (h.safe r hr).step hst fun k hk => .inl hk
  · by_cases e : r = q
    · simp only [if_pos e]; exact hl
    · simp only [if_neg e]; exact h.lim r hr
  · by_cases e : r = q
    · subst e
      simp only [if_pos]
      exact hg hu
    · simp only [if_neg e]; exact h.grow r hr hu
  · exact hst.tabs h.tabs fun k hk => by have := (h.mem hk).1; have := h.two; omega
theorem step_b {S S' : CS} {b : List Ser} (h : StepOf S S' b) : b = [] ∨ (BatchOk b ∧ LimitsOk b ∧ InRange b) := by
  cases h using StepOf.elim with
  | write k n b r' hk hu hw h1 h2 h3 h4 =>
    by_cases e : n = 0
    · rw [if_pos e]; exact .inr ⟨h1, h2, h3⟩
    · rw [if_neg e]; exact .inl rfl
  | _ => exact .inl rfl
theorem Grows.trans {a b c : List Ser} (h : Grows a b) (g : Grows b c) : Grows a c := fun l t v hh => by
  obtain ⟨u, hu, h1⟩ := h l t v hh
  obtain ⟨z, hz, h2⟩ := g l t u h1
  exact ⟨z, Nat.le_trans hu hz, h2⟩
theorem Grows.nil (b : List Ser) : Grows [] b := fun l t v hh => by obtain ⟨s, hs, _⟩ := hh; cases hs
/-- A step was done. -/
theorem SInv.act (h : SInv W w bb av S A A M bv bl) (hd : ∀ r, r < 3 → (S.r r).up = false → bl r = []) {S' : CS} {b : List Ser} (hs : StepOf S S' b) (hc : CluAt w' W.heap.size S') (ht : Turn w w' W.heap.size 0 136) :
    SInv W w' bb av S' A (A ++ b) (M + 60011) bv bl := by
  have hst : Stay (KA W.heap.size bb av) w w' := Stay.turn ht (by simp [KA])
  have hcb := h.cbb
  refine ⟨hc, step_ok h.ok hs, snd_step h.ok h.snd hs, h.all.step hst fun k e => ht.block k (h.all.lt k e).2 (by have := (h.all.lt k e).1; omega), fun s hm => ?_, h.apart.turn ht fun k hk => ?_, h.bef.kept (ht.block _ h.bef.lt (by omega)), fun r hr => (h.safe r hr).step hst fun k hk => .inl hk, h.lim, fun r hr hu => ?_, ?_, h.cbb, h.nbb, h.below.trans ⟨ht.os, ht.tape, ht.output, ht.size, fun k hk => ht.block k (by have := h.below.size; omega) (by omega)⟩, h.two⟩
  · rcases List.mem_append.1 hm with hm | hm
    · exact h.aok s hm
    · rcases step_b hs with rfl | ⟨ok, lim, _⟩
      · cases hm
      · exact ⟨(limits_mem lim s hm).1, (limits_mem lim s hm).2, ((samplesOk_iff _).1 (((batchOk_iff _).1 ok).1 s hm).2).2⟩
  · exact (h.mem (List.mem_cons_of_mem _ hk)).2
  · by_cases hu0 : (S.r r).up = true
    · exact (h.grow r hr hu0).trans (step_grow h.ok hs hu0 hu)
    · rw [hd r hr (by simpa using hu0)]
      exact Grows.nil _
  · exact hst.tabs h.tabs fun k hk => by have := (h.mem hk).1; have := h.two; omega
/-- all = append(all, b...). -/
theorem SInv.app {b : List Ser} {vals us : List (Value × Value)} {av' : Value} (h : SInv W w bb av S A (A ++ b) M bv bl) (hl : vals.length = A.length) (hp : ∀ (i : Nat) (p : Value × Value) (x : Ser), vals[i]? = some p → A[i]? = some x → SafeP (KA W.heap.size bb av) w p x)
    (hu : Pairs w w.heap.size us b) (hq : ∀ (i : Nat) (p : Value × Value) (x : Ser), us[i]? = some p → b[i]? = some x → SafeP (KA W.heap.size bb av) w p x)
    (ho : w'.ownsRow (W.heap.size + 1) 38 2 av' (A.length + b.length) (serCells vals ++ serCells us)) (hg : w.grownBy w' av.ownBlock) (hh : Heir w av av') : SInv W w' bb av' S (A ++ b) (A ++ b) M bv bl := by
  have hrow : ∀ k, av.ownBlock = some k → k ∈ KA W.heap.size bb av := fun k e => by simp [KA, e]
  have hst : Stay (KA W.heap.size bb av) w w' := Stay.grown hg hrow
  have hst2 : Stay (bb :: av.ownBlock.toList) w w' := Stay.grown hg fun k e => by simp [e]
  have hcb := h.cbb
  have hcn : W.heap.size ∉ bb :: av.ownBlock.toList := fun hm => by
    rcases List.mem_cons.1 hm with e | hm
    · omega
    · have := (h.row hm).1; omega
  have hnew : ∀ k, av'.ownBlock = some k → av.ownBlock = some k ∨ w.heap.size ≤ k := fun k e => by
    rcases hh with h1 | ⟨q, h1, h3⟩
    · exact .inl (h1 ▸ e)
    · rw [h1] at e; cases e; exact .inr h3
  have hK : ∀ k ∈ KA W.heap.size bb av', k ∈ KA W.heap.size bb av ∨ w.heap.size ≤ k := fun k hk => by
    rcases List.mem_cons.1 hk with rfl | hk
    · exact .inl (by simp [KA])
    · rcases List.mem_cons.1 hk with rfl | hk
      · exact .inl (by simp [KA])
      · have e : av'.ownBlock = some k := by simpa using hk
        exact (hnew k e).imp (hrow k) id
  have hblk : ∀ k, k < w.heap.size → av.ownBlock ≠ some k → w'.heap[k]? = w.heap[k]? := fun k h1 h3 => hg.block k h1 fun e => h3 e.symm
  have hcbw : w'.heap[W.heap.size]? = w.heap[W.heap.size]? := hblk _ h.clu.way.lt fun e => by have := (h.all.lt _ e).1; omega
  refine ⟨h.clu.stay hst2 hcn h.alien h.apart, h.ok, h.snd, AllOf.app hl hrow hp hu hq ho hg hK (fun k e => by simp [KA, e]), h.aok, fun j v k hj hc hk hm => ?_, h.bef.kept (hblk _ h.bef.lt h.nbb), fun r hr => (h.safe r hr).step hst hK, h.lim, h.grow, hst.tabs h.tabs fun k hk => by have := (h.mem hk).1; have := h.two; omega, h.cbb, fun e => ?_, h.below.trans ⟨hg.os, hg.tape, hg.output, hg.size, fun k hk => hblk k (by have := h.below.size; omega) fun e => by have := (h.all.lt _ e).1; omega⟩, h.two⟩
  · have hc' : w.cell? ⟨W.heap.size, j * 5 + 1, none⟩ = some v := (World.cell?_of_block (a := ⟨W.heap.size, j * 5 + 1, none⟩) hcbw).symm.trans hc
    have h3 := h.clu.lt1 hj hc' hk
    have h4 := h.apart j v k hj hc' hk
    rcases List.mem_cons.1 hm with rfl | hm
    · exact h4 (by simp)
    · have e : av'.ownBlock = some k := by simpa using hm
      rcases hnew k e with e2 | e2
      · exact h4 (by simp [e2])
      · omega
  · rcases hnew bb e with e2 | e2
    · exact h.nbb e2
    · have := h.bef.lt; omega
end
end Go.Proofs.YtamcclcbmenjdaaGreatDoor

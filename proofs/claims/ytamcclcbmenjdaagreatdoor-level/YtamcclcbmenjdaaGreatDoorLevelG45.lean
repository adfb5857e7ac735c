/- 'choirkeep.Level', for any list of steps (100 of them are done): when all are up, nothing is under way, and each has told each other one, all have the same, and compacted logs are the same bytes. The first form's statement and its card: no condition beside the row's own. -/
import Derived.Test.YtamcclcbmenjdaaGreatDoorLevelG42
/- When each has told each other one all have the same: pure. -/
namespace Go.Proofs.YtamcclcbmenjdaaGreatDoor
open Go.RowKit Go.Lib

theorem nodup_le {α : Type} : ∀ {l m : List α}, l.Nodup → (∀ x ∈ l, x ∈ m) → l.length ≤ m.length
  | [], _, _, _ => Nat.zero_le _
  | a :: r, m, hn, hs => by
    classical
    have ha : a ∈ m := hs a (by simp)
    have hr : ∀ x ∈ r, x ∈ m.erase a := fun x hx => (List.mem_erase_of_ne (fun e => by subst e; exact (List.nodup_cons.1 hn).1 hx)).2 (hs x (by simp [hx]))
    have h1 := nodup_le (List.nodup_cons.1 hn).2 hr
    have h2 := List.length_erase_of_mem ha
    have h3 : 0 < m.length := List.length_pos_of_mem ha
    rw [List.length_cons]
    omega
theorem limits_mono {k j : List Ser} (hk : BatchOk k) (hj : BatchOk j) (hl : LimitsOk j) (hs : ∀ l t v, Holds k l t v → ∃ u, Holds j l t u) : LimitsOk k := by
  have hk2 := (batchOk_iff _).1 hk
  have hj2 := (batchOk_iff _).1 hj
  have one : ∀ s ∈ k, ∃ s' ∈ j, s'.1 = s.1 := fun s hm => by
    have hne := ((samplesOk_iff _).1 (hk2.1 s hm).2).1
    obtain ⟨x, hx⟩ := List.exists_mem_of_ne_nil _ hne
    obtain ⟨u, s', hs', e, _⟩ := hs s.1 x.1 x.2 ⟨s, hm, rfl, hx⟩
    exact ⟨s', hs', e⟩
  have hlen : k.length ≤ j.length := by
    have h1 : (k.map (·.1)).Nodup := by
      rw [List.nodup_iff_pairwise_ne, List.pairwise_map]
      exact hk2.2.imp fun {a b} h e => by
        have h1 : cmpLabs a.1 b.1 = -1 := h
        rw [e, cmpLabs_self] at h1
        cases h1
    have h2 := nodup_le (m := j.map (·.1)) h1 fun x hx => by
      obtain ⟨s, hm, rfl⟩ := List.mem_map.1 hx
      obtain ⟨s', hs', e⟩ := one s hm
      exact List.mem_map.2 ⟨s', hs', e⟩
    simpa using h2
  refine ⟨fun i s hi hx => ?_, Nat.le_trans hlen hl.2⟩
  have hm := List.mem_of_getElem? hx
  obtain ⟨s', hs', e⟩ := one s hm
  have h4 := limits_mem hl s' hs'
  refine ⟨by rw [← e]; exact h4.1, Nat.le_trans ?_ h4.2⟩
  have h1 : (s.2.map (·.1)).Nodup := by
    rw [List.nodup_iff_pairwise_ne, List.pairwise_map]
    exact ((samplesOk_iff _).1 (hk2.1 s hm).2).2.imp fun {a b} h e => by
      have h1 : a.1 < b.1 := h
      omega
  have h2 := nodup_le (m := s'.2.map (·.1)) h1 fun t ht => by
    obtain ⟨x, hx, rfl⟩ := List.mem_map.1 ht
    obtain ⟨u, s2, hs2, e2, hu⟩ := hs s.1 x.1 x.2 ⟨s, hm, rfl, hx⟩
    have e3 : s2 = s' := ser_unique hj2.2 hs2 hs' (e2.trans e.symm)
    subst e3
    exact List.mem_map.2 ⟨_, hu, rfl⟩
  simpa using h2
/-- What is joined of some of the batches has no key that the join of all has not. -/
theorem join_sub {ass bss : List (List Ser)} {k j : List Ser} (hk : IsJoin ass k) (hj : IsJoin bss j) (hs : ∀ x ∈ ass, x ∈ bss) (ho : ∀ b ∈ bss, BatchOk b) : ∀ l t v, Holds k l t v → ∃ u, Holds j l t u := fun l t v hh => by
  obtain ⟨⟨b, hb, h1⟩, _⟩ := (hk.holds l t v).1 hh
  obtain ⟨u, hu⟩ := holds_max ho l t ⟨b, hs b hb, v, h1⟩
  exact ⟨u, (hj.holds l t u).2 hu⟩
/-- Who tells whom, in their order. -/
def tells : List (Nat × Nat) := [(0, 1), (0, 2), (1, 2), (1, 0), (2, 0), (2, 1)]
def tellMs (B : Nat → List Ser) : List Msg := tells.map fun p => ⟨p.1, p.2, frB (B p.1), 0⟩
/-- What replica k has got of the first n messages. -/
def gotOf (B : Nat → List Ser) (n k : Nat) : List (List Ser) := B k :: ((tells.take n).filter fun p => p.2 == k).map fun p => B p.1
structure Mid (B : Nat → List Ser) (n : Nat) (S : CS) : Prop where
  ms : S.ms = (tellMs B).drop n
  up : ∀ k, k < 3 → (S.r k).up = true
  join : ∀ k, k < 3 → IsJoin (gotOf B n k) (S.r k).bs
/-- Three batches and the join of all. -/
structure Three (B : Nat → List Ser) (j : List Ser) : Prop where
  ok : ∀ k, k < 3 → BatchOk (B k) ∧ LimitsOk (B k) ∧ InRange (B k)
  join : IsJoin [B 0, B 1, B 2] j
  lim : LimitsOk j
theorem three_mem {B : Nat → List Ser} {k : Nat} (hk : k < 3) : B k ∈ [B 0, B 1, B 2] := by
  have e : k = 0 ∨ k = 1 ∨ k = 2 := by omega
  rcases e with rfl | rfl | rfl <;> simp
theorem tells_lt {p : Nat × Nat} (h : p ∈ tells) : p.1 < 3 ∧ p.2 < 3 := by
  simp only [tells, List.mem_cons, List.not_mem_nil, or_false] at h
  rcases h with rfl | rfl | rfl | rfl | rfl | rfl <;> decide
theorem got_mem {B : Nat → List Ser} {n k : Nat} (hk : k < 3) : ∀ x ∈ gotOf B n k, x ∈ [B 0, B 1, B 2] := fun x hx => by
  rcases List.mem_cons.1 hx with rfl | hx
  · exact three_mem hk
  · obtain ⟨p, hp, rfl⟩ := List.mem_map.1 hx
    exact three_mem (tells_lt (List.mem_of_mem_take (List.mem_filter.1 hp).1)).1
theorem Three.all {B : Nat → List Ser} {j : List Ser} (h : Three B j) : ∀ x ∈ [B 0, B 1, B 2], BatchOk x := fun x hx => by
  simp only [List.mem_cons, List.not_mem_nil, or_false] at hx
  rcases hx with rfl | rfl | rfl
  · exact (h.ok 0 (by omega)).1
  · exact (h.ok 1 (by omega)).1
  · exact (h.ok 2 (by omega)).1
/-- A batch that is told is taken whole. -/
theorem tell_write {B : Nat → List Ser} {j b : List Ser} {ass : List (List Ser)} {r r' : RS} {n : Nat} (h : Three B j) (hr : IsJoin ass r.bs) (ha : ∀ x ∈ ass, x ∈ [B 0, B 1, B 2]) (hb : b ∈ [B 0, B 1, B 2]) (hbl : LimitsOk b) (hw : WriteOf r b n r') : IsJoin (ass ++ [b]) r'.bs ∧ r'.up = r.up := by
  have hbo := h.all b hb
  rcases hw with ⟨hc, hn, _⟩ | ⟨_, k, hk, hc, h2⟩
  · exact absurd (hc.uni (.inr (.inr ⟨rfl, hbo, hbl⟩))) hn
  · have hg : IsJoin (ass ++ [b]) k := hr.group hk (fun x hx => h.all x (ha x hx))
    have hsub : ∀ x ∈ ass ++ [b], x ∈ [B 0, B 1, B 2] := fun x hx => by
      rcases List.mem_append.1 hx with hx | hx
      · exact ha x hx
      · rw [List.mem_singleton.1 hx]; exact hb
    have hkl := limits_mono hg.ok h.join.ok h.lim (join_sub hg h.join hsub h.all)
    obtain rfl := hc.uni (.inr (.inr ⟨rfl, hg.ok, hkl⟩))
    rcases h2 with ⟨h2, _⟩ | ⟨_, rfl, rfl⟩ | ⟨_, _, rfl⟩
    · exact absurd rfl h2
    · exact ⟨hg, rfl⟩
    · exact ⟨hg, rfl⟩
theorem mid_deliver {B : Nat → List Ser} {j : List Ser} {S S' : CS} {n m : Nat} (h : Three B j) (hm : Mid B n S) (hn : n < 6) (hd : DelivOf S 0 m S') : Mid B (n + 1) S' := by
  obtain ⟨⟨f, t⟩, hp⟩ : ∃ p, tells[n]? = some p := ⟨_, List.getElem?_eq_getElem (by simpa [tells] using hn)⟩
  have hlt := tells_lt (List.mem_of_getElem? hp)
  simp only at hlt
  have hhead : S.ms[0]? = some ⟨f, t, frB (B f), 0⟩ := by
    rw [hm.ms, List.getElem?_drop, Nat.add_zero]
    unfold tellMs
    rw [List.getElem?_map, hp]; rfl
  have hne : 0 < S.ms.length := (List.getElem?_eq_some_iff.1 hhead).1
  rcases hd with ⟨_, _, hd⟩ | ⟨_, q, msg, r', hq, hmsg, hr, rfl⟩
  · exact absurd ⟨Int.le_refl _, by omega⟩ hd
  · obtain rfl : q = 0 := by omega
    rw [hhead] at hmsg
    cases hmsg
    have hfb := h.ok f hlt.1
    have hfr := frame_is (B f) hfb.1 hfb.2.1 hfb.2.2
    have e : (frB (B f)).data.toList = frameOf (payload (B f)) := BA_list _
    have hw : ∃ n, WriteOf (S.r t) (B f) n r' := by
      rcases hr with ⟨hx | hx, _⟩ | ⟨_, _, n, hw⟩
      · rw [hm.up t hlt.2] at hx; cases hx
      · exact absurd (by show IsFrame (frB (B f)).data.toList; rw [e]; exact hfr.1) hx
      · refine ⟨n, ?_⟩
        have hw2 : WriteOf (S.r t) (got (frB (B f)).data.toList) n r' := hw
        rw [e, hfr.2] at hw2
        exact hw2
    obtain ⟨n2, hw⟩ := hw
    obtain ⟨j1, j2⟩ := tell_write h (hm.join t hlt.2) (got_mem hlt.2) (three_mem hlt.1) hfb.2.1 hw
    have htake : tells.take (n + 1) = tells.take n ++ [(f, t)] := by rw [List.take_add_one, hp]; rfl
    refine ⟨?_, fun k hk => ?_, fun k hk => ?_⟩
    · show S.ms.eraseIdx 0 = _
      rw [hm.ms, List.eraseIdx_zero, List.tail_drop]
    · by_cases ek : k = t
      · subst ek
        have e2 : ((CS.mk S.r (S.ms.eraseIdx 0)).put k r').r k = r' := by simp [CS.put]
        rw [e2, j2]; exact hm.up k hk
      · have e2 : ((CS.mk S.r (S.ms.eraseIdx 0)).put t r').r k = S.r k := by simp [CS.put, ek]
        rw [e2]; exact hm.up k hk
    · by_cases ek : k = t
      · subst ek
        have e2 : ((CS.mk S.r (S.ms.eraseIdx 0)).put k r').r k = r' := by simp [CS.put]
        have e3 : gotOf B (n + 1) k = gotOf B n k ++ [B f] := by
          unfold gotOf
          rw [htake, List.filter_append]
          simp
        rw [e2, e3]; exact j1
      · have e2 : ((CS.mk S.r (S.ms.eraseIdx 0)).put t r').r k = S.r k := by simp [CS.put, ek]
        have e3 : gotOf B (n + 1) k = gotOf B n k := by
          unfold gotOf
          rw [htake, List.filter_append]
          have : ¬ t = k := fun e => ek e.symm
          simp [this]
        rw [e2, e3]; exact hm.join k hk
/-- All have heard all. -/
theorem mid_end {B : Nat → List Ser} {j : List Ser} {S : CS} (h : Three B j) (hm : Mid B 6 S) : S.ms = [] ∧ ∀ k, k < 3 → (S.r k).up = true ∧ (S.r k).bs = j := by
  refine ⟨hm.ms, fun k hk => ⟨hm.up k hk, ?_⟩⟩
  refine ((hm.join k hk).perm fun x => ?_).unique h.join
  have e : k = 0 ∨ k = 1 ∨ k = 2 := by omega
  rcases e with rfl | rfl | rfl <;> simp [gotOf, tells] <;> constructor <;> intro hx <;> rcases hx with hx | hx | hx <;> simp [hx]
/-- Three batches that are the same. -/
theorem three_same {j : List Ser} (h1 : BatchOk j) (h2 : LimitsOk j) (h3 : InRange j) : Three (fun _ => j) j :=
  ⟨fun _ _ => ⟨h1, h2, h3⟩, (IsJoin.one h1).perm fun x => by simp, h2⟩
/-- The messages while each tells. -/
structure Tell (B : Nat → List Ser) (n : Nat) (S : CS) : Prop where
  ms : S.ms = (tellMs B).take n
  rep : ∀ k, k < 3 → (S.r k).up = true ∧ (S.r k).bs = B k
theorem tell_push {B : Nat → List Ser} {S : CS} {n f t : Nat} (h : Tell B n S) (hp : tells[n]? = some (f, t)) : Tell B (n + 1) ⟨S.r, if (S.r f).up then pushed S.ms ⟨f, t, frB (S.r f).bs, 0⟩ else S.ms⟩ := by
  have hlt := tells_lt (List.mem_of_getElem? hp)
  simp only at hlt
  have hf := h.rep f hlt.1
  have hn : n < 6 := (List.getElem?_eq_some_iff.1 hp).1
  refine ⟨?_, h.rep⟩
  show (if (S.r f).up = true then _ else _) = _
  rw [if_pos hf.1, hf.2]
  have hl : S.ms.length ≤ 6 := by rw [h.ms, List.length_take]; simp [tellMs, tells]; omega
  unfold pushed
  rw [if_pos (by omega), h.ms, List.take_add_one]
  unfold tellMs
  rw [List.getElem?_map, hp]; rfl
theorem tell_mid {B : Nat → List Ser} {S : CS} (h : Tell B 6 S) (ho : ∀ k, k < 3 → BatchOk (B k)) : Mid B 0 S :=
  ⟨h.ms.trans (List.take_of_length_le (by simp [tellMs, tells])), fun k hk => (h.rep k hk).1, fun k hk => by
    have e : gotOf B 0 k = [B k] := by simp [gotOf]
    rw [e, (h.rep k hk).2]
    exact IsJoin.one (ho k hk)⟩
end Go.Proofs.YtamcclcbmenjdaaGreatDoor

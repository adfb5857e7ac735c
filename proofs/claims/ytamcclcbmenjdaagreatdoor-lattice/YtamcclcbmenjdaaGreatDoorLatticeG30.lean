/- 'choirkeep.Lattice', for any three lists of raw samples: joins do not hang on order, grouping and how often; with bytes and without it is the same. The first form's statement and its card: no condition beside the row's own. -/
import Derived.Test.YtamcclcbmenjdaaGreatDoorLatticeG29
import Derived.Test.YtamcclcbmenjdaaGreatDoorLatticeG3
import Derived.Test.YtamcclcbmenjdaaGreatDoorLatticeG14
import Derived.Test.YtamcclcbmenjdaaGreatDoorLatticeG15
/- Joins of choirkeep's batches stay within limits. No program here. -/
namespace Go.Proofs.YtamcclcbmenjdaaGreatDoor

theorem KB.limits {bs : List Ser} {n : Nat} (h : KB bs n) (hn : n ≤ 40) (hok : BatchOk bs) : LimitsOk bs := by
  refine ⟨fun i x _ hx => ?_, ?_⟩
  · obtain ⟨⟨j, _, e⟩, h2⟩ := h x (List.mem_of_getElem? hx)
    exact ⟨by rw [e]; exact klen, by omega⟩
  · have h1 : (bs.map (·.1)).length ≤ [labsOf 0, labsOf 1, labsOf 2, labsOf 3].length := by
      refine nodup_len _ _ ?_ fun l hl => ?_
      · refine List.pairwise_map.2 (((batchOk_iff bs).1 hok).2.imp fun {x y} hxy e => ?_)
        unfold LLt at hxy
        rw [e, cmpLabs_self] at hxy
        cases hxy
      · obtain ⟨s, hs, rfl⟩ := List.mem_map.1 hl
        obtain ⟨⟨j, hj, e⟩, _⟩ := h s hs
        rw [e]
        have : j = 0 ∨ j = 1 ∨ j = 2 ∨ j = 3 := by omega
        rcases this with rfl | rfl | rfl | rfl <;> simp
    rw [List.length_map] at h1
    simp at h1; omega
/-- The samples of labels in a batch are at most n. -/
theorem KB.times {bs : List Ser} {n : Nat} (h : KB bs n) (hok : BatchOk bs) (l : List Lab) : ∃ ts : List Int, ts.length ≤ n ∧ ∀ t v, Holds bs l t v → t ∈ ts := by
  by_cases he : ∃ s ∈ bs, s.1 = l
  · obtain ⟨s, hs, e⟩ := he
    refine ⟨s.2.map (·.1), by rw [List.length_map]; exact (h s hs).2, fun t v ⟨r, hr, e2, hm⟩ => ?_⟩
    have := ser_unique ((batchOk_iff bs).1 hok).2 hs hr (e.trans e2.symm)
    subst this
    exact List.mem_map.2 ⟨_, hm, rfl⟩
  · exact ⟨[], Nat.zero_le _, fun t v ⟨r, hr, e2, _⟩ => absurd ⟨r, hr, e2⟩ he⟩
theorem IsJoin.kb {a b j : List Ser} {n m : Nat} (hj : IsJoin [a, b] j) (ha : KB a n) (hb : KB b m) (oa : BatchOk a) (ob : BatchOk b) : KB j (n + m) := fun s hs => by
  have hso := (samplesOk_iff _).1 (((batchOk_iff j).1 hj.ok).1 s hs).2
  have hold : ∀ x ∈ s.2, Holds a s.1 x.1 x.2 ∨ Holds b s.1 x.1 x.2 := fun x hx => by
    obtain ⟨⟨bs, hbs, h⟩, _⟩ := (hj.holds s.1 x.1 x.2).1 ⟨s, hs, rfl, hx⟩
    rcases List.mem_cons.1 hbs with rfl | hbs
    · exact .inl h
    · rw [List.mem_singleton.1 hbs] at h; exact .inr h
  constructor
  · obtain ⟨x, hx⟩ : ∃ x, x ∈ s.2 := List.exists_mem_of_ne_nil _ hso.1
    rcases hold x hx with ⟨r, hr, e, _⟩ | ⟨r, hr, e, _⟩
    · rw [← e]; exact (ha r hr).1
    · rw [← e]; exact (hb r hr).1
  · obtain ⟨t1, l1, h1⟩ := ha.times oa s.1
    obtain ⟨t2, l2, h2⟩ := hb.times ob s.1
    have h3 : (s.2.map (·.1)).length ≤ (t1 ++ t2).length := by
      refine nodup_len _ _ ?_ fun t ht => ?_
      · refine List.pairwise_map.2 (hso.2.imp fun {x y} hxy e => ?_)
        unfold SLt at hxy; omega
      · obtain ⟨x, hx, rfl⟩ := List.mem_map.1 ht
        rcases hold x hx with h | h
        · exact List.mem_append_left _ (h1 _ _ h)
        · exact List.mem_append_right _ (h2 _ _ h)
    rw [List.length_map, List.length_append] at h3
    omega
end Go.Proofs.YtamcclcbmenjdaaGreatDoor

/- choirkeep's joined. -/
namespace Go.Proofs.YtamcclcbmenjdaaGreatDoor
open Go.RowKit Go.Lib

theorem two_ranged {w : World} {B : Nat} {va vb : Value} {a b j : List Ser} (ha : BatchAt w B va a) (hb : BatchAt w B vb b) (hj : IsJoin [a, b] j) : ∀ s ∈ j, Ranged s := fun s hs x hx => by
  obtain ⟨⟨bs, hbs, r, hr, _, hm⟩, _⟩ := (hj.holds s.1 x.1 x.2).1 ⟨s, hs, rfl, hx⟩
  rcases List.mem_cons.1 hbs with e | hbs
  · rw [e] at hr; exact ha.ranged r hr _ hm
  · rw [List.mem_singleton.1 hbs] at hr; exact hb.ranged r hr _ hm
set_option maxRecDepth 100000 in
set_option maxHeartbeats 1000000 in
theorem kjoined_any (W : World) (va vb : Value) (a b : List Ser) (ha : BatchAt W W.heap.size va a) (hb : BatchAt W W.heap.size vb b) (hsa : Small a) (hsb : Small b) (oa : BatchOk a) (ob : BatchOk b) (la : LimitsOk a) (lb : LimitsOk b) (hlim : ∀ j, IsJoin [a, b] j → LimitsOk j) :
    Calls Tryz.prog 14 #[va, vb] W fun e w' => ∃ jv j, IsJoin [a, b] j ∧ e = .returned (.tuple #[jv, .bool true]) ∧ BatchAt w' w'.heap.size jv j ∧ LimitsOk j ∧ Below W.heap.size W w' := by
  have C := hide (join_any W va vb a b ha hb hsa hsb)
  have HA := hide ha
  have HB := hide hb
  obtain ⟨aa, ac, rfl, -⟩ := id ha
  obtain ⟨ba, bc, rfl, -⟩ := id hb
  clear ha hb
  go_enter Tryz.func14, Tryz.ntmps14
  go_wp2_with fail
  refine C.out.mono ?_
  rintro e w2 ⟨n, j, hj, hb2, hr⟩
  obtain ⟨hJ, hC⟩ : IsJoin [a, b] j ∧ Code j n := by
    rcases hj with ⟨_, h⟩ | ⟨_, _, _, h⟩ | ⟨_, _, _, _, h⟩
    · exact absurd ⟨oa, ob⟩ h
    · exact absurd ⟨la, lb⟩ h
    · exact h
  have hL := hlim j hJ
  obtain rfl : n = 0 := by
    rcases hC with ⟨_, h⟩ | ⟨_, _, h⟩ | ⟨h, _⟩
    · exact absurd hJ.ok h
    · exact absurd hL h
    · exact h
  rcases hr with ⟨_, jv, rfl, hF⟩ | ⟨h, _⟩
  · have hA : BatchAt w2 w2.heap.size jv j := hF.batchAt (two_ranged HA.out HB.out hJ)
    have HR : Hid (IsJoin [a, b] j ∧ BatchAt w2 w2.heap.size jv j ∧ LimitsOk j ∧ Below W.heap.size W w2) := ⟨hJ, hA, hL, hb2⟩
    clear hj hb2 hJ hC hL hF hA C HA HB hlim
    go_wp2
    go_ret2
    exact ⟨_, j, HR.out.1, rfl, HR.out.2⟩
  · exact absurd rfl h
end Go.Proofs.YtamcclcbmenjdaaGreatDoor

/- choirkeep's same: of two lists of series that read alike it says so. -/
namespace Go.Proofs.YtamcclcbmenjdaaGreatDoor
open Go.RowKit Go.Lib

set_option maxRecDepth 100000 in
set_option maxHeartbeats 1000000 in
theorem same_any (v1 v2 : Value) (bs : List Ser) (w : World) (h1 : BatchAt w w.heap.size v1 bs) (h2 : BatchAt w w.heap.size v2 bs) (hsm : Small bs) :
    Calls Tryz.prog 16 #[v1, v2] w fun e w' => e = .returned (.bool true) ∧ Below w.heap.size w w' := by
  obtain ⟨a1, c1, rfl, _⟩ := id h1
  obtain ⟨a2, c2, rfl, _⟩ := id h2
  have H1 := hide h1
  have H2 := hide h2
  have HSm := hide hsm
  have hll := hsm.series
  clear h1 h2 hsm
  go_enter Tryz.func16, Tryz.ntmps16
  go_wp2
  go_loopw [5, 6, 7] (fun i _ _ wr => ∃ m q : Nat, m ≤ bs.length ∧ i = .int .i64 m ∧ wr = w.drewN q) (fun i _ _ _ => bs.length - (intOf i).toNat)
  case atStart => exact ⟨0, 0, Nat.zero_le _, rfl, rfl⟩
  case round =>
    obtain ⟨m, q, hm, rfl, rfl⟩ := hrel
    by_cases hlt : m < bs.length
    · obtain ⟨⟨ll, sl⟩, hx⟩ : ∃ x, bs[m]? = some x := ⟨_, List.getElem?_eq_getElem hlt⟩
      obtain ⟨b1, o1, la1, lc1, sa1, sc1, rfl, _, p1, p2, L1, S1⟩ := H1.out.get hx
      obtain ⟨b2, o2, la2, lc2, sa2, sc2, rfl, _, q1, q2, L2, S2⟩ := H2.out.get hx
      have hl1 := HSm.out.labels _ (List.mem_of_getElem? hx)
      have hs1 := HSm.out.samples _ (List.mem_of_getElem? hx)
      simp only at p1 p2 q1 q2 L1 L2 S1 S2 hl1 hs1
      have HL1 := hide L1
      have HL2 := hide L2
      have HS1 := hide S1
      have HS2 := hide S2
      clear L1 L2 S1 S2 hx
      go_wp2
      go_quiet (fail)
      go_wp2
      go_loopw [6] (fun i wr => ∃ j q : Nat, j ≤ ll.length ∧ i = .int .i64 j ∧ wr = w.drewN q) (fun i _ => ll.length - (intOf i).toNat)
      case atStart => exact ⟨0, _, Nat.zero_le _, rfl, by first | rfl | exact drewN_two _ _ _⟩
      case round =>
        obtain ⟨j, q, hj, rfl, rfl⟩ := hrel
        by_cases hjl : j < ll.length
        · obtain ⟨⟨ky, vy⟩, hy⟩ : ∃ x, ll[j]? = some x := ⟨_, List.getElem?_eq_getElem hjl⟩
          obtain ⟨e1, f1, rfl, u1, u2⟩ := labGet HL1.out hy
          obtain ⟨e2, f2, rfl, v1, v2⟩ := labGet HL2.out hy
          simp only at u1 u2 v1 v2
          clear hy
          go_wp2
          go_quiet (fail)
          go_wp2
          go_roundw
          case rel => exact ⟨j + 1, _, by omega, by go_num, by first | rfl | exact drewN_two _ _ _⟩
          case measure => simp [intOf]; omega
        · go_wp2
          go_loopw [7] (fun i wr => ∃ j q : Nat, j ≤ sl.length ∧ i = .int .i64 j ∧ wr = w.drewN q) (fun i _ => sl.length - (intOf i).toNat)
          case atStart => exact ⟨0, _, Nat.zero_le _, rfl, rfl⟩
          case round =>
            obtain ⟨j, q, hj, rfl, rfl⟩ := hrel
            by_cases hjl : j < sl.length
            · obtain ⟨⟨ty, by1⟩, hy⟩ : ∃ x, sl[j]? = some x := ⟨_, List.getElem?_eq_getElem hjl⟩
              obtain ⟨e1, f1, rfl, u1, u2⟩ := samGet HS1.out hy
              obtain ⟨e2, f2, rfl, v1, v2⟩ := samGet HS2.out hy
              simp only at u1 u2 v1 v2
              clear hy
              go_wp2
              go_quiet (fail)
              go_wp2
              go_roundw
              case rel => exact ⟨j + 1, _, by omega, by go_num, by first | rfl | exact drewN_two _ _ _⟩
              case measure => simp [intOf]; omega
            · go_wp2
              go_roundw
              case rel => exact ⟨m + 1, _, by omega, by go_num, rfl⟩
              case measure => simp [intOf]; omega
    · go_wp2
      go_ret
      exact ⟨rfl, below_drewN (Below.refl _ _) _⟩
end Go.Proofs.YtamcclcbmenjdaaGreatDoor

/- choirkeep's same: of two lists of series that read alike it says so. -/
import Derived.Test.YtcidgfdiacehmaaDoorKBatch
namespace Go.Proofs.YtcidgfdiacehmaaDoor
open Go.RowKit Go.Lib

theorem labGet {w : World} {B : Nat} {a : Option Addr} {n c : Nat} {l : List Lab} (h : LabelsAt w B (.slice a n c) l) {j : Nat} {x : Lab} (hx : l[j]? = some x) :
    ∃ b o, a = some ⟨b, o, none⟩ ∧ w.cell? ⟨b, o + j * 2, none⟩ = some (.string x.1) ∧ w.cell? ⟨b, o + j * 2 + 1, none⟩ = some (.string x.2) := by
  obtain ⟨a', c', hv, _, h2⟩ := h
  cases hv
  rcases h2 with h2 | ⟨b, o, ha, _, hc⟩
  · rw [h2] at hx; cases hx
  · exact ⟨b, o, ha, (hc j x hx).1, (hc j x hx).2⟩
theorem samGet {w : World} {B : Nat} {a : Option Addr} {n c : Nat} {l : List (Int × Nat)} (h : SamplesAt w B (.slice a n c) l) {j : Nat} {x : Int × Nat} (hx : l[j]? = some x) :
    ∃ b o, a = some ⟨b, o, none⟩ ∧ w.cell? ⟨b, o + j * 2, none⟩ = some (.int .i64 x.1) ∧ w.cell? ⟨b, o + j * 2 + 1, none⟩ = some (.int .u64 x.2) := by
  obtain ⟨a', c', hv, _, _, h2⟩ := h
  cases hv
  rcases h2 with h2 | ⟨b, o, ha, _, hc⟩
  · rw [h2] at hx; cases hx
  · exact ⟨b, o, ha, (hc j x hx).1, (hc j x hx).2⟩

theorem drewN_two (w : World) (a b : Nat) : (w.drewN a).drewN b = w.drewN (a + b) := by
  simp [World.drewN, Nat.add_assoc]

set_option maxRecDepth 100000 in
set_option maxHeartbeats 1000000 in
theorem same_any (v1 v2 : Value) (bs : List Ser) (w : World) (h1 : BatchAt w w.heap.size v1 bs) (h2 : BatchAt w w.heap.size v2 bs) (hsm : Small bs) :
    Calls Tryd.prog 16 #[v1, v2] w fun e w' => e = .returned (.bool true) ∧ Below w.heap.size w w' := by
  obtain ⟨a1, c1, rfl, _⟩ := id h1
  obtain ⟨a2, c2, rfl, _⟩ := id h2
  have H1 := hide h1
  have H2 := hide h2
  have HSm := hide hsm
  have hll := hsm.series
  clear h1 h2 hsm
  go_enter Tryd.func16, Tryd.ntmps16
  go_wp2
  go_loopw [5, 6, 7] (fun i _ _ wr => ∃ m q : Nat, m ≤ bs.length ∧ i = .int .i64 m ∧ wr = w.drewN q) (fun i _ _ _ => bs.length - (intOf i).toNat)
  case atStart => exact ⟨0, 0, Nat.zero_le _, rfl, rfl⟩
  case round =>
    obtain ⟨m, q, hm, rfl, rfl⟩ := hrel
    by_cases hlt : m < bs.length
    · obtain ⟨⟨ll, sl⟩, hx⟩ : ∃ x, bs[m]? = some x := ⟨_, List.getElem?_eq_getElem hlt⟩
      obtain ⟨b1, o1, la1, lc1, sa1, sc1, rfl, _, p1, p2, L1, S1⟩ := H1.out.get hx
      obtain ⟨b2, o2, la2, lc2, sa2, sc2, rfl, _, q1, q2, L2, S2⟩ := H2.out.get hx
      have hl1 := HSm.out.labels _ (List.mem_of_getElem? hx)
      have hs1 := HSm.out.samples _ (List.mem_of_getElem? hx)
      simp only at p1 p2 q1 q2 L1 L2 S1 S2 hl1 hs1
      have HL1 := hide L1
      have HL2 := hide L2
      have HS1 := hide S1
      have HS2 := hide S2
      clear L1 L2 S1 S2 hx
      go_wp2
      go_quiet (fail)
      go_wp2
      go_loopw [6] (fun i wr => ∃ j q : Nat, j ≤ ll.length ∧ i = .int .i64 j ∧ wr = w.drewN q) (fun i _ => ll.length - (intOf i).toNat)
      case atStart => exact ⟨0, _, Nat.zero_le _, rfl, by first | rfl | exact drewN_two _ _ _⟩
      case round =>
        obtain ⟨j, q, hj, rfl, rfl⟩ := hrel
        by_cases hjl : j < ll.length
        · obtain ⟨⟨ky, vy⟩, hy⟩ : ∃ x, ll[j]? = some x := ⟨_, List.getElem?_eq_getElem hjl⟩
          obtain ⟨e1, f1, rfl, u1, u2⟩ := labGet HL1.out hy
          obtain ⟨e2, f2, rfl, v1, v2⟩ := labGet HL2.out hy
          simp only at u1 u2 v1 v2
          clear hy
          go_wp2
          go_quiet (fail)
          go_wp2
          go_roundw
          case rel => exact ⟨j + 1, _, by omega, by go_num, by first | rfl | exact drewN_two _ _ _⟩
          case measure => simp [intOf]; omega
        · go_wp2
          go_loopw [7] (fun i wr => ∃ j q : Nat, j ≤ sl.length ∧ i = .int .i64 j ∧ wr = w.drewN q) (fun i _ => sl.length - (intOf i).toNat)
          case atStart => exact ⟨0, _, Nat.zero_le _, rfl, rfl⟩
          case round =>
            obtain ⟨j, q, hj, rfl, rfl⟩ := hrel
            by_cases hjl : j < sl.length
            · obtain ⟨⟨ty, by1⟩, hy⟩ : ∃ x, sl[j]? = some x := ⟨_, List.getElem?_eq_getElem hjl⟩
              obtain ⟨e1, f1, rfl, u1, u2⟩ := samGet HS1.out hy
              obtain ⟨e2, f2, rfl, v1, v2⟩ := samGet HS2.out hy
              simp only at u1 u2 v1 v2
              clear hy
              go_wp2
              go_quiet (fail)
              go_wp2
              go_roundw
              case rel => exact ⟨j + 1, _, by omega, by go_num, by first | rfl | exact drewN_two _ _ _⟩
              case measure => simp [intOf]; omega
            · go_wp2
              go_roundw
              case rel => exact ⟨m + 1, _, by omega, by go_num, rfl⟩
              case measure => simp [intOf]; omega
    · go_wp2
      go_ret
      exact ⟨rfl, below_drewN (Below.refl _ _) _⟩
end Go.Proofs.YtcidgfdiacehmaaDoor

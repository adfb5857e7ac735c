/- choirkeep's same: are two lists of series the same? -/
import Derived.Test.YtcidgfdiacehmaaKBatch
namespace Go.Proofs.Ytcidgfdiacehmaa
open Go.RowKit Go.Lib

theorem take_eq_more {α : Type} {l m : List α} {i : Nat} {x y : α} (hx : l[i]? = some x) (hy : m[i]? = some y) : l.take (i + 1) = m.take (i + 1) ↔ l.take i = m.take i ∧ x = y := by
  rw [List.take_add_one, List.take_add_one, hx, hy]
  constructor
  · intro h
    have := List.append_inj' h rfl
    exact ⟨this.1, by simpa using this.2⟩
  · rintro ⟨h, rfl⟩; rw [h]
theorem take_all {α : Type} {l m : List α} (h : l.length = m.length) {i : Nat} (hi : l.length ≤ i) : l.take i = m.take i ↔ l = m := by
  rw [List.take_of_length_le hi, List.take_of_length_le (by omega)]
theorem take_ne {α : Type} {l m : List α} {i : Nat} (h : l.take i ≠ m.take i) : l ≠ m := fun e => h (by rw [e])
set_option maxRecDepth 100000 in
set_option maxHeartbeats 1000000 in
theorem same_iff (v1 v2 : Value) (ys bs : List Ser) (w : World) (h1 : BatchAt w w.heap.size v1 ys) (h2 : BatchAt w w.heap.size v2 bs) (hsm1 : Small ys) (hsm2 : Small bs) :
    Calls Try.prog 21 #[v1, v2] w fun e w' => BoolOf e (ys = bs) ∧ Below w.heap.size w w' := by
  obtain ⟨a1, c1, rfl, _⟩ := id h1
  obtain ⟨a2, c2, rfl, _⟩ := id h2
  have H1 := hide h1
  have H2 := hide h2
  have HSm1 := hide hsm1
  have HSm2 := hide hsm2
  have hl1 := hsm1.series
  have hl2 := hsm2.series
  clear h1 h2 hsm1 hsm2
  by_cases hlen : ys.length = bs.length
  · rw [hlen]
    go_enter Try.func21, Try.ntmps21
    go_wp2
    go_loopw [5, 6, 7] (fun i _ _ wr => ∃ m q : Nat, m ≤ bs.length ∧ i = .int .i64 m ∧ wr = w.drewN q ∧ ys.take m = bs.take m) (fun i _ _ _ => bs.length - (intOf i).toNat)
    case atStart => exact ⟨0, 0, Nat.zero_le _, rfl, rfl, rfl⟩
    case round =>
      obtain ⟨m, q, hm, rfl, rfl, htk⟩ := hrel
      by_cases hlt : m < bs.length
      · obtain ⟨⟨ll, sl⟩, hx⟩ : ∃ x, ys[m]? = some x := ⟨_, List.getElem?_eq_getElem (by omega)⟩
        obtain ⟨⟨kl, tl⟩, hy⟩ : ∃ x, bs[m]? = some x := ⟨_, List.getElem?_eq_getElem hlt⟩
        obtain ⟨b1, o1, la1, lc1, sa1, sc1, rfl, _, p1, p2, L1, S1⟩ := H1.out.get hx
        obtain ⟨b2, o2, la2, lc2, sa2, sc2, rfl, _, q1, q2, L2, S2⟩ := H2.out.get hy
        have hl1 := HSm1.out.labels _ (List.mem_of_getElem? hx)
        have hs1 := HSm1.out.samples _ (List.mem_of_getElem? hx)
        have hl2 := HSm2.out.labels _ (List.mem_of_getElem? hy)
        have hs2 := HSm2.out.samples _ (List.mem_of_getElem? hy)
        have HT : Hid ((ll = kl ∧ sl = tl) ↔ ys.take (m + 1) = bs.take (m + 1)) := by
          rw [take_eq_more hx hy]
          exact ⟨fun ⟨e1, e2⟩ => ⟨htk, by rw [e1, e2]⟩, fun ⟨_, e⟩ => ⟨(Prod.mk.inj e).1, (Prod.mk.inj e).2⟩⟩
        simp only at p1 p2 q1 q2 L1 L2 S1 S2 hl1 hs1 hl2 hs2
        have HL1 := hide L1
        have HL2 := hide L2
        have HS1 := hide S1
        have HS2 := hide S2
        clear L1 L2 S1 S2 hx hy htk
        by_cases hll : ll.length = kl.length
        · rw [hll] at p1
          by_cases hss : sl.length = tl.length
          · rw [hss] at p2
            go_wp2
            go_quiet (fail)
            go_wp2
            go_loopw [6] (fun i wr => ∃ j q : Nat, j ≤ kl.length ∧ i = .int .i64 j ∧ wr = w.drewN q ∧ ll.take j = kl.take j) (fun i _ => kl.length - (intOf i).toNat)
            case atStart => exact ⟨0, _, Nat.zero_le _, rfl, by first | rfl | exact drewN_two _ _ _, rfl⟩
            case round =>
              obtain ⟨j, q, hj, rfl, rfl, htk⟩ := hrel
              by_cases hjl : j < kl.length
              · obtain ⟨⟨kx, vx⟩, hx⟩ : ∃ x, ll[j]? = some x := ⟨_, List.getElem?_eq_getElem (by omega)⟩
                obtain ⟨⟨ky, vy⟩, hy⟩ : ∃ x, kl[j]? = some x := ⟨_, List.getElem?_eq_getElem hjl⟩
                obtain ⟨e1, f1, rfl, u1, u2⟩ := labGet HL1.out hx
                obtain ⟨e2, f2, rfl, v1, v2⟩ := labGet HL2.out hy
                simp only at u1 u2 v1 v2
                have HT2 := hide (take_eq_more hx hy)
                clear hx hy
                by_cases hk : kx = ky
                · subst hk
                  by_cases hv : vx = vy
                  · subst hv
                    go_wp2
                    go_quiet (fail)
                    go_wp2
                    go_roundw
                    case rel => exact ⟨j + 1, _, by omega, by go_num, by first | rfl | exact drewN_two _ _ _, HT2.out.2 ⟨htk, by trivial⟩⟩
                    case measure => simp [intOf]; omega
                  · have hvb := str_ne hv
                    go_wp2
                    go_quiet (fail)
                    go_wp2
                    go_ret
                    exact ⟨BoolOf.no fun e => take_ne (fun e2 => hv (Prod.mk.inj (HT2.out.1 e2).2).2) (HT.out.2 (by rw [e])).1, by first | exact below_drewN (Below.refl _ _) _ | (rw [drewN_two]; exact below_drewN (Below.refl _ _) _)⟩
                · have hkb := str_ne hk
                  go_wp2
                  go_quiet (fail)
                  go_wp2
                  go_ret
                  exact ⟨BoolOf.no fun e => take_ne (fun e2 => hk (Prod.mk.inj (HT2.out.1 e2).2).1) (HT.out.2 (by rw [e])).1, by first | exact below_drewN (Below.refl _ _) _ | (rw [drewN_two]; exact below_drewN (Below.refl _ _) _)⟩
              · have HLe : Hid (ll = kl) := (take_all hll (by omega : ll.length ≤ j)).1 htk
                clear htk
                go_wp2
                go_loopw [7] (fun i wr => ∃ j q : Nat, j ≤ tl.length ∧ i = .int .i64 j ∧ wr = w.drewN q ∧ sl.take j = tl.take j) (fun i _ => tl.length - (intOf i).toNat)
                case atStart => exact ⟨0, _, Nat.zero_le _, rfl, rfl, rfl⟩
                case round =>
                  obtain ⟨j, q, hj, rfl, rfl, htk⟩ := hrel
                  by_cases hjl : j < tl.length
                  · obtain ⟨⟨kx, vx⟩, hx⟩ : ∃ x, sl[j]? = some x := ⟨_, List.getElem?_eq_getElem (by omega)⟩
                    obtain ⟨⟨ky, vy⟩, hy⟩ : ∃ x, tl[j]? = some x := ⟨_, List.getElem?_eq_getElem hjl⟩
                    obtain ⟨e1, f1, rfl, u1, u2⟩ := samGet HS1.out hx
                    obtain ⟨e2, f2, rfl, v1, v2⟩ := samGet HS2.out hy
                    simp only at u1 u2 v1 v2
                    have HT2 := hide (take_eq_more hx hy)
                    clear hx hy
                    by_cases hk : kx = ky
                    · subst hk
                      by_cases hv : vx = vy
                      · subst hv
                        go_wp2
                        go_quiet (fail)
                        go_wp2
                        go_roundw
                        case rel => exact ⟨j + 1, _, by omega, by go_num, by first | rfl | exact drewN_two _ _ _, HT2.out.2 ⟨htk, by trivial⟩⟩
                        case measure => simp [intOf]; omega
                      · have hvi : ¬ (vx : Int) = (vy : Int) := by omega
                        go_wp2
                        go_quiet (fail)
                        go_wp2
                        go_ret
                        exact ⟨BoolOf.no fun e => take_ne (fun e2 => hv (Prod.mk.inj (HT2.out.1 e2).2).2) (HT.out.2 (by rw [e])).2, by first | exact below_drewN (Below.refl _ _) _ | (rw [drewN_two]; exact below_drewN (Below.refl _ _) _)⟩
                    · go_wp2
                      go_quiet (fail)
                      go_wp2
                      go_ret
                      exact ⟨BoolOf.no fun e => take_ne (fun e2 => hk (Prod.mk.inj (HT2.out.1 e2).2).1) (HT.out.2 (by rw [e])).2, by first | exact below_drewN (Below.refl _ _) _ | (rw [drewN_two]; exact below_drewN (Below.refl _ _) _)⟩
                  · have HSe : Hid (sl = tl) := (take_all hss (by omega : sl.length ≤ j)).1 htk
                    go_wp2
                    go_roundw
                    case rel => exact ⟨m + 1, _, by omega, by go_num, rfl, HT.out.1 ⟨HLe.out, HSe.out⟩⟩
                    case measure => simp [intOf]; omega
          · have j1 : ¬ (sl.length : Int) = (tl.length : Int) := by omega
            go_wp2
            go_quiet (fail)
            go_wp2
            go_ret
            exact ⟨BoolOf.no fun e => hss (by rw [(HT.out.2 (by rw [e])).2]), by first | exact below_drewN (Below.refl _ _) _ | (rw [drewN_two]; exact below_drewN (Below.refl _ _) _)⟩
        · have j0 : ¬ (ll.length : Int) = (kl.length : Int) := by omega
          go_wp2
          go_quiet (fail)
          go_wp2
          go_ret
          exact ⟨BoolOf.no fun e => hll (by rw [(HT.out.2 (by rw [e])).1]), by first | exact below_drewN (Below.refl _ _) _ | (rw [drewN_two]; exact below_drewN (Below.refl _ _) _)⟩
      · go_wp2
        go_ret
        exact ⟨BoolOf.yes ((take_all hlen (by omega : ys.length ≤ m)).1 htk), by first | exact below_drewN (Below.refl _ _) _ | (rw [drewN_two]; exact below_drewN (Below.refl _ _) _)⟩
  · have i0 : ¬ (ys.length : Int) = (bs.length : Int) := by omega
    go_enter Try.func21, Try.ntmps21
    go_wp2
    go_ret
    exact ⟨BoolOf.no fun e => hlen (by rw [e]), by first | exact below_drewN (Below.refl _ _) _ | exact Below.refl _ _⟩
end Go.Proofs.Ytcidgfdiacehmaa

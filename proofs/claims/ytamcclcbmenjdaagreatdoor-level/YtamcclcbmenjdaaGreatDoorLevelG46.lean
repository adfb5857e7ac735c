/- 'choirkeep.Level', for any list of steps (100 of them are done): when all are up, nothing is under way, and each has told each other one, all have the same, and compacted logs are the same bytes. The first form's statement and its card: no condition beside the row's own. -/
import Derived.Test.YtamcclcbmenjdaaGreatDoorLevelG44
import Derived.Test.YtamcclcbmenjdaaGreatDoorLevelG45
import Derived.Deep.CutBlock
/- choirkeep's Level. -/
namespace Go.Proofs.YtamcclcbmenjdaaGreatDoor
open Go.RowKit Go.Lib

theorem join_rng {bss : List (List Ser)} {j : List Ser} (h : ∀ b ∈ bss, InRange b) (hj : IsJoin bss j) : InRange j := fun s hs x hx => by
  obtain ⟨⟨b, hb, r, hr, _, hm⟩, _⟩ := (hj.holds s.1 x.1 x.2).1 ⟨s, hs, rfl, hx⟩
  exact h b hb r hr _ hm
theorem compact_log {r : RS} {j : List Ser} (h : r.bs = j) : BA (logB (compactOf r).log) = if j = [] then ⟨#[]⟩ else ⟨(frameOf (payload j)).toArray⟩ := by
  subst h
  by_cases e : r.bs = []
  · have e2 : (compactOf r).log = [] := by unfold compactOf; simp [e]
    rw [e2, if_pos e]; rfl
  · have e2 : (compactOf r).log = [frB r.bs] := by unfold compactOf; simp [e]
    rw [e2, if_neg e]
    show BA (logB [BA _]) = _
    rw [logB_one]; rfl
theorem tell_at {q : Nat} (h : q < 3) : tells[2 * q]? = some (q, (q + 1) % 3) ∧ tells[2 * q + 1]? = some (q, (q + 2) % 3) := by
  have e : q = 0 ∨ q = 1 ∨ q = 2 := by omega
  rcases e with rfl | rfl | rfl <;> exact ⟨rfl, rfl⟩
set_option maxRecDepth 100000 in
set_option maxHeartbeats 4000000 in
theorem level_any (W : World) (v : Value) (l : List ActIn) (h : ActsAt W W.heap.size v l) (hT : Tabs W) :
    Calls Tryz.prog 8 #[v] W fun e w' => e = .returned (.bool true) ∧ Below W.heap.size W w' := by
  obtain ⟨i0, hi, hz0, hz1, hz2⟩ := info_parts Tryz.infoSer
  obtain ⟨xa, xc, rfl, -⟩ := id h
  have hlt := hT.lt
  have HX := hide h
  have C1 := hide (begun_any W hT)
  clear h hT
  go_enter Tryz.func8, Tryz.ntmps8
  go_wp2_with fail
  refine C1.out.mono ?_
  rintro e w1 hbe
  obtain rfl := hbe.ans
  have HI1 : Hid (LvInv W w1 Sb3 180033 (.slice (some ⟨W.heap.size + 2, 0, none⟩) 1 1) 1) := by
    obtain ⟨vals, _, ho, _⟩ := hbe.all (K := [W.heap.size + 2]) (by simp) (by simp)
    exact ⟨⟨hbe.clu, ok_b3, fun k _ => step_last begS3 (step_last begS2 (step_last begS1 (show Lasting [] (S0.r k) from last_r0))), hbe.tabs, hbe.below, hlt⟩, ⟨vals, ho⟩, hbe.apart⟩
  clear C1 hbe
  go_upto_block 0 with fail
  go_cut [4, 5, 6] from 37 to 55 (fun _ _ _ wx => ∃ (S : CS) (B : Nat → List Ser), Hid (LInv W wx S 7000000 B))
  case first =>
    go_wp2_with fail
    go_loopw [4, 5, 6] (fun av i _ wr => ∃ (m : Nat) (S : CS) (n : Nat), m ≤ 100 ∧ m ≤ l.length ∧ i = .int .i64 m ∧ n ≤ 8 * m + 8 ∧ Hid (LvInv W wr S (60011 * m + 180033) av n)) (fun _ i _ _ => l.length - (intOf i).toNat)
    case atStart => exact ⟨0, Sb3, 1, by omega, Nat.zero_le _, rfl, by omega, HI1.out⟩
    case round =>
      clear HI1
      obtain ⟨m, S, n, hm, hml, rfl, hn, HI⟩ := hrel
      have HI0 := hide (HI.out.inv.mono (M' := 7000000) (by omega))
      by_cases hlt2 : m < l.length
      · have hmi : (m : Int) < (l.length : Int) := by omega
        by_cases h100 : m < 100
        · have h2i : (m : Int) < 100 := by omega
          obtain ⟨x, hx⟩ : ∃ x, l[m]? = some x := ⟨_, List.getElem?_eq_getElem hlt2⟩
          obtain ⟨xb, xo, ra, rc, rfl, hxb, hxo, c0, c1, c2, c3, c4, hR⟩ := (HX.out.below HI.out.inv.below).get hx
          have C2 := hide (act_step wr W.heap.size _ S x ra rc W.heap.size HI.out.inv.clu HI.out.inv.ok (by omega) HI.out.inv.tabs HI.out.inv.two hxo HI.out.inv.below.size hR)
          obtain ⟨kd, r2, a2, c5, raws⟩ := x
          simp only at c0 c1 c2 c3 c4 C2
          clear hx hR hxo HI0
          go_wp2_with fail
          refine C2.out.mono ?_
          rintro e w3 ⟨bv3, b, S', rfl, hst, hc3, ht3, hf3⟩
          have HI3 := hide (HI.out.act hst hc3 ht3)
          have hB3 := hf3.2 w3 (Nat.le_refl _) (fun _ _ _ => rfl)
          obtain ⟨ba, bc, rfl, -⟩ := id hB3
          have hbl : b.length ≤ 8 := by
            rcases step_b hst with rfl | ⟨_, h1, _⟩
            · simp
            · exact h1.2
          obtain ⟨-, us, hup, hsrc⟩ := batchAt_pairs hB3
          obtain ⟨vals, hvo⟩ := HI3.out.row
          have HVo := hide hvo
          have HUp := hide hup
          have HSrc : Hid (b.length = 0 ∨ ∃ ad, ba = some ad ∧ ∀ j u, (serCells us)[j]? = some u → w3.cell? (ad.add j) = some u) := hsrc.imp id fun ⟨ad, h1, _, h2⟩ => ⟨ad, h1, h2⟩
          have hws : W.heap.size + 1 ≤ w3.heap.size := HI3.out.inv.clu.way.lt
          clear hst hc3 ht3 hf3 hup hsrc hvo hB3 C2 HI c0 c1 c2 c3 c4
          go_wp2_with (at_builtin; refine wpList_append_spread _ rfl (.tmp 53) (.tmp 54) 39 rfl (W.heap.size + 1) 38 i0 (.agg #[.slice none 0 0, .slice none 0 0]) 2 48 Tryz.underlying39 hi hz0 hz1 hz2 rfl (by decide) u4 n (serCells vals) rfl HVo.out ba b.length bc (serCells us) rfl (pairs_len HUp.out) HSrc.out HUp.out.oneCell (by unfold maxLen; omega) (by omega) hws ?_)
          intro av' w4 ho4 hg4 hh4
          have HI4 : Hid (LvInv W w4 S' (60011 * (m + 1) + 180033) av' (n + b.length)) := by
            have e : 60011 * m + 180033 + 60011 = 60011 * (m + 1) + 180033 := by omega
            rw [← e]; exact HI3.out.app HVo.out ho4 hg4 hh4
          clear ho4 hg4 hh4 HVo HUp HSrc HI3
          go_wp2
          go_roundw
          case rel => exact ⟨m + 1, S', n + b.length, by omega, by omega, by go_num, by omega, HI4.out⟩
          case measure => simp [intOf]; omega
        · have h2i : ¬ (m : Int) < 100 := by omega
          clear HI
          go_wp2
          go_meet
          exact ⟨S, _, HI0.out⟩
      · have hmi : ¬ (m : Int) < (l.length : Int) := by omega
        clear HI
        go_wp2
        go_meet
        exact ⟨S, _, HI0.out⟩
  case rest =>
    clear HI1 HX
    obtain ⟨S, B, HI⟩ := hcut
    go_wp2
    go_loopw [7] (fun i wr => ∃ (n : Nat) (S : CS) (B : Nat → List Ser), n ≤ 3 ∧ i = .int .i64 n ∧ Hid (LInv W wr S 7000000 B) ∧ Hid (∀ k, k < n → (S.r k).up = true)) (fun i _ => 3 - (intOf i).toNat)
    case atStart => exact ⟨0, S, B, by omega, rfl, HI.out, fun k hk => absurd hk (Nat.not_lt_zero _)⟩
    case round =>
      clear HI
      obtain ⟨n, S, B, hn, rfl, HI, HU⟩ := hrel
      by_cases hn3 : n < 3
      · have hni : (n : Int) < 3 := by omega
        obtain ⟨sv, lp, hrep⟩ := HI.out.clu.rep n hn3
        have HRk := hide (HI.out.ok.rep n hn3)
        have CR := hide (cRestart_any wr W.heap.size n 7000000 hn3 _ sv lp hrep HRk.out.len (by omega) HI.out.tabs HI.out.two)
        clear hrep
        go_wp2_with fail
        refine CR.out.mono ?_
        rintro e w3 ⟨n2, r3, sv3, lp3, rfl, hr3, hrep3, ht3⟩
        have HI3 := hide (HI.out.put hn3 hrep3 ht3 (restart_ok HRk.out hr3) (last_restart (HI.out.last n hn3) hr3))
        have HU3 : Hid (∀ k, k < n + 1 → ((S.put n r3).r k).up = true) := fun k hk => by
          by_cases e : k = n
          · subst e; rw [put_r]; exact restart_up hr3
          · have e2 : (S.put n r3).r k = S.r k := by simp [CS.put, e]
            rw [e2]; exact HU.out k (by omega)
        clear hr3 hrep3 ht3 CR HI HU HRk
        go_wp2
        go_roundw
        case rel => exact ⟨n + 1, _, _, by omega, by go_num, HI3.out, HU3.out⟩
        case measure => simp [intOf]; omega
      · have hni : ¬ (n : Int) < 3 := by omega
        obtain rfl : n = 3 := by omega
        go_wp2
        go_loopw [8] (fun i wr => ∃ (n : Nat) (S : CS) (B : Nat → List Ser), n ≤ 60 ∧ i = .int .i64 n ∧ S.ms.length ≤ 30 - n ∧ Hid (LInv W wr S 7000000 B) ∧ Hid (∀ k, k < 3 → (S.r k).up = true)) (fun i _ => 60 - (intOf i).toNat)
        case atStart => exact ⟨0, S, B, by omega, rfl, HI.out.clu.way.n, HI.out, HU.out⟩
        case round =>
          clear HI HU
          obtain ⟨n, S, B, hn, rfl, hml, HI, HU⟩ := hrel
          by_cases hn60 : n < 60
          · have hni : (n : Int) < 60 := by omega
            have CD := hide (cDrop0_any wr W.heap.size S.ms HI.out.clu.way)
            go_wp2_with fail
            refine CD.out.mono ?_
            rintro e w3 ⟨n2, rfl, hw3, ht3⟩
            have HI3 := hide (HI.out.way hw3 ht3 fun m hm => List.mem_of_mem_tail hm)
            have hml3 : S.ms.tail.length ≤ 30 - (n + 1) := by rw [List.length_tail]; omega
            clear hw3 ht3 CD HI
            go_wp2
            go_roundw
            case rel => exact ⟨n + 1, ⟨S.r, S.ms.tail⟩, B, by omega, by go_num, hml3, HI3.out, HU.out⟩
            case measure => simp [intOf]; omega
          · have hni : ¬ (n : Int) < 60 := by omega
            have HMs : Hid (S.ms = []) := List.eq_nil_of_length_eq_zero (by omega)
            have HOk : Hid (∀ k, k < 3 → RepOk 7000000 (S.r k)) := HI.out.ok.rep
            obtain ⟨sv, lp, hrep⟩ := HI.out.clu.rep 0 (by omega)
            have CA : Hid (Calls Tryz.prog 19 #[.pointer (some ⟨W.heap.size, 0, none⟩), .int .i64 0] wr fun e w' => HasEnd wr w' (S.r 0) e) := hide (khas_any wr W.heap.size 0 7000000 (by omega) (S.r 0) sv lp hrep (HOk.out 0 (by omega)))
            have hcbw := HI.out.clu.way.lt
            clear hrep hml
            go_wp2_with fail
            refine CA.out.mono ?_
            rintro e w4 ⟨hr, hb4⟩
            rcases hr with ⟨hd, _⟩ | ⟨_, x0, d0, rfl, hf0⟩
            · rw [HU.out 0 (by omega)] at hd; cases hd
            have HI4 := hide (HI.out.kept hb4)
            have HF4 := hide hf0
            have hs4 := hb4.size
            obtain ⟨sv, lp, hrep⟩ := HI4.out.clu.rep 1 (by omega)
            have CB : Hid (Calls Tryz.prog 19 #[.pointer (some ⟨W.heap.size, 0, none⟩), .int .i64 1] w4 fun e w' => HasEnd w4 w' (S.r 1) e) := hide (khas_any w4 W.heap.size 1 7000000 (by omega) (S.r 1) sv lp hrep (HOk.out 1 (by omega)))
            clear hrep hb4 hf0 CA HI
            go_wp2_with fail
            refine CB.out.mono ?_
            rintro e w5 ⟨hr, hb5⟩
            rcases hr with ⟨hd, _⟩ | ⟨_, x1, d1, rfl, hf1⟩
            · rw [HU.out 1 (by omega)] at hd; cases hd
            have HI5 := hide (HI4.out.kept hb5)
            have HF5 := hide (fresh_kept HF4.out hb5)
            have HG5 := hide hf1
            have hs5 := hb5.size
            obtain ⟨sv, lp, hrep⟩ := HI5.out.clu.rep 2 (by omega)
            have CC : Hid (Calls Tryz.prog 19 #[.pointer (some ⟨W.heap.size, 0, none⟩), .int .i64 2] w5 fun e w' => HasEnd w5 w' (S.r 2) e) := hide (khas_any w5 W.heap.size 2 7000000 (by omega) (S.r 2) sv lp hrep (HOk.out 2 (by omega)))
            clear hrep hb5 hf1 CB HI4 HF4
            go_wp2_with fail
            refine CC.out.mono ?_
            rintro e w6 ⟨hr, hb6⟩
            rcases hr with ⟨hd, _⟩ | ⟨_, x2, d2, rfl, hf2⟩
            · rw [HU.out 2 (by omega)] at hd; cases hd
            have HI6 := hide (HI5.out.kept hb6)
            have HF6 := hide ((fresh_kept HF5.out hb6).batchAt (HOk.out 0 (by omega)).rng)
            have HG6 := hide ((fresh_kept HG5.out hb6).batchAt (HOk.out 1 (by omega)).rng)
            have HH6 := hide (hf2.batchAt (HOk.out 2 (by omega)).rng)
            have hs6 := hb6.size
            have o0 := HOk.out 0 (by omega)
            have o1 := HOk.out 1 (by omega)
            have o2 := HOk.out 2 (by omega)
            have CJ := hide (kjoined_gen w6 _ _ _ _ HF6.out HG6.out (small_of_limits o0.lim) (small_of_limits o1.lim) o0.ok o1.ok o0.lim o1.lim)
            have HO0 := hide o0
            have HO1 := hide o1
            have HO2 := hide o2
            clear hb6 hf2 CC HI5 HF5 HG5 o0 o1 o2
            go_wp2_with fail
            refine CJ.out.mono ?_
            rintro e w7 ⟨j1, hj1, hb7, hr⟩
            have HI7 := hide (HI6.out.kept hb7)
            have hs7 := hb7.size
            have HH7 := hide ((HH6.out.below hb7 (Nat.le_refl _)).wider hs7)
            have HJ1 := hide hj1
            rcases hr with ⟨_, rfl⟩ | ⟨hl1, y1, f1, rfl, hfj⟩
            · have CK := hide (kjoined_gen w7 (.slice none 0 0) _ [] (S.r 2).bs ⟨none, 0, rfl, Nat.le_refl _, .inl rfl⟩ HH7.out (small_of_limits ok_nil.2.1) (small_of_limits HO2.out.lim) ok_nil.1 HO2.out.ok ok_nil.2.1 HO2.out.lim)
              clear hb7 hj1 CJ HI6
              go_wp2_with fail
              refine CK.out.mono ?_
              rintro e w8 ⟨j2, _, hb8, hr⟩
              have HE := hide (HI7.out.kept hb8).below
              clear hb8 CK HI7
              rcases hr with ⟨_, rfl⟩ | ⟨_, y2, f2, rfl, _⟩
              · go_wp2
                go_ret
                exact ⟨rfl, HE.out⟩
              · go_wp2
                go_ret
                exact ⟨rfl, HE.out⟩
            · have HRj1 : Hid (InRange j1) := join_rng (fun b hb => by
                rcases List.mem_cons.1 hb with rfl | hb
                · exact HO0.out.rng
                · rw [List.mem_singleton.1 hb]; exact HO1.out.rng) hj1
              have CK := hide (kjoined_gen w7 _ _ j1 (S.r 2).bs (hfj.batchAt HRj1.out) HH7.out (small_of_limits hl1) (small_of_limits HO2.out.lim) hj1.ok HO2.out.ok hl1 HO2.out.lim)
              clear hb7 hj1 hfj hl1 CJ HI6
              go_wp2_with fail
              refine CK.out.mono ?_
              rintro e w8 ⟨j, hj, hb8, hr⟩
              have HI8 := hide (HI7.out.kept hb8)
              have hs8 := hb8.size
              rcases hr with ⟨_, rfl⟩ | ⟨hlj, y2, f2, rfl, hfj⟩
              · have HE := hide HI8.out.below
                clear hb8 hj CK HI7 HI8
                go_wp2
                go_ret
                exact ⟨rfl, HE.out⟩
              have HRj : Hid (InRange j) := join_rng (fun b hb => by
                rcases List.mem_cons.1 hb with rfl | hb
                · exact HRj1.out
                · rw [List.mem_singleton.1 hb]; exact HO2.out.rng) hj
              have HSf := hide (safe_fresh (fresh_mono hfj (show W.heap.size + 1 ≤ w7.heap.size by omega)) HRj.out)
              have HThree : Hid (Three (fun k => (S.r k).bs) j) := ⟨fun k hk => ⟨(HOk.out k hk).ok, (HOk.out k hk).lim, (HOk.out k hk).rng⟩, HJ1.out.group hj (fun b hb => by
                rcases List.mem_cons.1 hb with rfl | hb
                · exact HO0.out.ok
                · rw [List.mem_singleton.1 hb]; exact HO1.out.ok), hlj⟩
              have HLj := hide hlj
              have HOj := hide hj.ok
              clear hb8 hj hfj hlj CK HI7 HRj1 HJ1 HO0 HO1 HO2 HH7 HH6 HF6 HG6 HOk
              go_wp2
              go_loopw [19, 20, 21] (fun i _ _ wr => ∃ (n : Nat) (S : CS) (Bl B : Nat → List Ser), n ≤ 2 ∧ i = .int .i64 n ∧ Hid (LInv W wr S (7000000 + 800000 * n) Bl) ∧ Hid (SafeB wr W.heap.size (.slice y2 j.length f2) j) ∧ Hid (S.ms = []) ∧ Hid (Three B j) ∧ Hid (∀ k, k < 3 → (S.r k).up = true ∧ (S.r k).bs = B k) ∧ Hid (1 ≤ n → ∀ k, k < 3 → (S.r k).bs = j)) (fun i _ _ _ => 2 - (intOf i).toNat)
              case atStart => exact ⟨0, S, _, _, by omega, rfl, HI8.out, HSf.out, HMs.out, HThree.out, fun k hk => ⟨HU.out k hk, rfl⟩, fun h => absurd h (by omega)⟩
              case round =>
                clear HI8 HSf HMs HThree HU
                obtain ⟨n, S, Bl, B, hn, rfl, HI, HSf, HMs, HTh, HR, HEq⟩ := hrel
                by_cases hn2 : n < 2
                · have hni : (n : Int) < 2 := by omega
                  go_wp2
                  go_loopw [20] (fun r wr => ∃ (q : Nat) (S : CS) (Bl : Nat → List Ser), q ≤ 3 ∧ r = .int .i64 q ∧ Hid (LInv W wr S (7000000 + 800000 * n + 120022 * q) Bl) ∧ Hid (SafeB wr W.heap.size (.slice y2 j.length f2) j) ∧ Hid (Tell B (2 * q) S)) (fun r _ => 3 - (intOf r).toNat)
                  case atStart => exact ⟨0, S, Bl, by omega, rfl, HI.out, HSf.out, ⟨HMs.out, HR.out⟩⟩
                  case round =>
                    clear HI HSf HMs HR HEq
                    obtain ⟨q, S, Bl, hq, rfl, HI, HSf, HTl⟩ := hrel
                    by_cases hq3 : q < 3
                    · have hqi : (q : Int) < 3 := by omega
                      have HM1 : Hid (((q : Int) + 1) % 3 = (((q + 1) % 3 : Nat) : Int)) := by show _ = _; omega
                      have HM2 : Hid (((q : Int) + 2) % 3 = (((q + 2) % 3 : Nat) : Int)) := by show _ = _; omega
                      obtain ⟨sv, lp, hrep⟩ := HI.out.clu.rep q hq3
                      have CP := hide (cPush_any wr W.heap.size q ((q + 1) % 3) _ hq3 (by omega) (by omega) (S.r q) sv lp S.ms hrep (HI.out.ok.rep q hq3) HI.out.clu.way HI.out.tabs)
                      clear hrep
                      go_wp2_with fail
                      rw [HM1.out]
                      refine CP.out.mono ?_
                      rintro e w3 ⟨ms3, he, hms3, hw3, ht3⟩
                      generalize (if (S.r q).up = true then (0 : Int) else 5) = n3 at he
                      subst he
                      subst hms3
                      have HI3 := hide (HI.out.step (StepOf.push q ((q + 1) % 3) hq3 (by omega) (by omega)) (HI.out.clu.way1 hw3 ht3) (ht3.wider (by omega) (Nat.le_refl _)))
                      have HTl3 := hide (tell_push HTl.out (tell_at hq3).1)
                      have HSf3 := hide (HSf.out.turn ht3)
                      generalize (CS.mk S.r (if (S.r q).up = true then pushed S.ms ⟨q, (q + 1) % 3, frB (S.r q).bs, 0⟩ else S.ms)) = S3 at *
                      obtain ⟨sv, lp, hrep⟩ := HI3.out.clu.rep q hq3
                      have CP2 := hide (cPush_any w3 W.heap.size q ((q + 2) % 3) _ hq3 (by omega) (by omega) (S3.r q) sv lp S3.ms hrep (HI3.out.ok.rep q hq3) HI3.out.clu.way HI3.out.tabs)
                      clear hrep hw3 ht3 CP HI HTl HSf
                      go_wp2_with fail
                      rw [HM2.out]
                      refine CP2.out.mono ?_
                      rintro e w4 ⟨ms4, he, hms4, hw4, ht4⟩
                      generalize (if (S3.r q).up = true then (0 : Int) else 5) = n4 at he
                      subst he
                      subst hms4
                      have HI4 : Hid (LInv W w4 ⟨S3.r, if (S3.r q).up = true then pushed S3.ms ⟨q, (q + 2) % 3, frB (S3.r q).bs, 0⟩ else S3.ms⟩ (7000000 + 800000 * n + 120022 * (q + 1)) Bl) := by
                        have e : 7000000 + 800000 * n + 120022 * q + 60011 + 60011 = 7000000 + 800000 * n + 120022 * (q + 1) := by omega
                        rw [← e]
                        exact HI3.out.step (StepOf.push q ((q + 2) % 3) hq3 (by omega) (by omega)) (HI3.out.clu.way1 hw4 ht4) (ht4.wider (by omega) (Nat.le_refl _))
                      have HTl4 := hide (tell_push HTl3.out (tell_at hq3).2)
                      have HTl5 : Hid (Tell B (2 * (q + 1)) ⟨S3.r, if (S3.r q).up = true then pushed S3.ms ⟨q, (q + 2) % 3, frB (S3.r q).bs, 0⟩ else S3.ms⟩) := by
                        have e : 2 * (q + 1) = 2 * q + 1 + 1 := by omega
                        rw [e]; exact HTl4.out
                      have HSf4 := hide (HSf3.out.turn ht4)
                      clear hw4 ht4 CP2 HI3 HTl3 HSf3 HM1 HM2
                      go_wp2
                      go_roundw
                      case rel => exact ⟨q + 1, _, Bl, by omega, by go_num, HI4.out, HSf4.out, HTl5.out⟩
                      case measure => simp [intOf]; omega
                    · have hqi : ¬ (q : Int) < 3 := by omega
                      obtain rfl : q = 3 := by omega
                      have HMd := hide (tell_mid HTl.out fun k hk => (HTh.out.ok k hk).1)
                      clear HTl
                      go_wp2
                      go_loopw [21] (fun r wr => ∃ (q : Nat) (S : CS) (Bl : Nat → List Ser), q ≤ 6 ∧ r = .int .i64 q ∧ Hid (LInv W wr S (7000000 + 800000 * n + 360066 + 60011 * q) Bl) ∧ Hid (SafeB wr W.heap.size (.slice y2 j.length f2) j) ∧ Hid (Mid B q S)) (fun r _ => 6 - (intOf r).toNat)
                      case atStart => exact ⟨0, S, Bl, by omega, rfl, HI.out, HSf.out, HMd.out⟩
                      case round =>
                        clear HI HSf HMd
                        obtain ⟨q, S, Bl, hq, rfl, HI, HSf, HMd⟩ := hrel
                        by_cases hq6 : q < 6
                        · have hqi : (q : Int) < 6 := by omega
                          have CD := hide (cDeliver_any wr W.heap.size _ 0 S HI.out.clu HI.out.ok (by omega) HI.out.tabs HI.out.two)
                          go_wp2_with fail
                          refine CD.out.mono ?_
                          rintro e w3 ⟨n3, S3, rfl, hd, hc, ht⟩
                          have HI3 : Hid (LInv W w3 S3 (7000000 + 800000 * n + 360066 + 60011 * (q + 1)) Bl) := by
                            have e : 7000000 + 800000 * n + 360066 + 60011 * q + 60011 = 7000000 + 800000 * n + 360066 + 60011 * (q + 1) := by omega
                            rw [← e]
                            exact HI.out.step (StepOf.deliver 0 n3 S3 hd) hc ht
                          have HMd3 := hide (mid_deliver HTh.out HMd.out hq6 hd)
                          have HSf3 := hide (HSf.out.turn ht)
                          clear hd hc ht CD HI HMd HSf
                          go_wp2
                          go_roundw
                          case rel => exact ⟨q + 1, S3, Bl, by omega, by go_num, HI3.out, HSf3.out, HMd3.out⟩
                          case measure => simp [intOf]; omega
                        · have hqi : ¬ (q : Int) < 6 := by omega
                          obtain rfl : q = 6 := by omega
                          obtain ⟨hms, hall⟩ := mid_end HTh.out HMd.out
                          have HMs := hide hms
                          have HAll := hide hall
                          have HI9 := hide (HI.out.mono (M' := 7000000 + 800000 * (n + 1)) (by omega))
                          clear hms hall HI HMd
                          go_wp2
                          go_roundw
                          case rel => exact ⟨n + 1, S, Bl, fun _ => j, by omega, by go_num, HI9.out, HSf.out, HMs.out, three_same HOj.out HLj.out HRj.out, HAll.out, fun _ k hk => (HAll.out k hk).2⟩
                          case measure => simp [intOf]; omega
                · have hni : ¬ (n : Int) < 2 := by omega
                  obtain rfl : n = 2 := by omega
                  have HAll : Hid (∀ k, k < 3 → (S.r k).up = true ∧ (S.r k).bs = j) := fun k hk => ⟨(HR.out k hk).1, HEq.out (by omega) k hk⟩
                  clear HR HEq HTh
                  go_wp2
                  go_loopw [22, 23, 24, 25, 26, 27, 28, 29, 30] (fun r _ _ _ _ _ _ _ _ wr => ∃ (q : Nat) (S : CS) (Bl : Nat → List Ser), q ≤ 3 ∧ r = .int .i64 q ∧ Hid (LInv W wr S 8600000 Bl) ∧ Hid (SafeB wr W.heap.size (.slice y2 j.length f2) j) ∧ Hid (S.ms = []) ∧ Hid (∀ k, k < 3 → (S.r k).up = true ∧ (S.r k).bs = j)) (fun r _ _ _ _ _ _ _ _ _ => 3 - (intOf r).toNat)
                  case atStart => exact ⟨0, S, Bl, by omega, rfl, HI.out, HSf.out, HMs.out, HAll.out⟩
                  case round =>
                    clear HI HSf HMs HAll
                    obtain ⟨q, S, Bl, hq, rfl, HI, HSf, HMs, HAll⟩ := hrel
                    by_cases hq3 : q < 3
                    · have hqi : (q : Int) < 3 := by omega
                      obtain ⟨hup, hbs⟩ := HAll.out q hq3
                      have HUp := hide hup
                      have HBs := hide hbs
                      have HRk := hide (HI.out.ok.rep q hq3)
                      obtain ⟨sv, lp, hrep⟩ := HI.out.clu.rep q hq3
                      have HP := hide hrep
                      have CH := hide (khas_any wr W.heap.size q _ hq3 _ sv lp hrep HRk.out)
                      have HLs := hide (compact_log hbs)
                      clear hrep hup hbs
                      go_wp2_with fail
                      refine CH.out.mono ?_
                      rintro e w3 ⟨hr, hb3⟩
                      rcases hr with ⟨hd, _⟩ | ⟨_, x3, c3, he, hf3⟩
                      · rw [HUp.out] at hd; cases hd
                      rw [HBs.out] at he hf3
                      subst he
                      have HI3 := hide (HI.out.kept hb3)
                      have HP3 := hide (HP.out.below hb3)
                      have HSf3 := hide (HSf.out.turn (Turn.of_below (lo := 0) (hi := 136) hb3 HI.out.clu.way.lt))
                      have CS := hide (same_iff _ _ j j w3 (hf3.batchAt HRj.out) HSf3.out.here (small_of_limits HLj.out) (small_of_limits HLj.out))
                      clear hb3 hf3 CH HI HP HSf
                      go_wp2_with fail
                      refine CS.out.mono ?_
                      rintro e w4 ⟨⟨r4, rfl, h4⟩, hb4⟩
                      obtain rfl : r4 = true := h4.2 trivial
                      have HI4 := hide (HI3.out.kept hb4)
                      have HP4 := hide (HP3.out.below hb4)
                      have HSf4 := hide (HSf3.out.turn (Turn.of_below (lo := 0) (hi := 136) hb4 HI3.out.clu.way.lt))
                      have CC := hide (cCompact_any w4 W.heap.size q 8600000 hq3 _ sv lp HP4.out HRk.out HI4.out.tabs HI4.out.two)
                      clear hb4 h4 CS HI3 HP3 HSf3
                      go_wp2_with fail
                      refine CC.out.mono ?_
                      rintro e w5 ⟨sv5, lp5, he, hrep5, ht5⟩
                      rw [if_pos HUp.out] at he hrep5
                      subst he
                      have HI5 := hide (HI4.out.put hq3 hrep5 ht5 (compact_ok HRk.out (by omega)) (compact_all HRk.out))
                      have HP5 := hide hrep5
                      have HSf5 := hide (HSf4.out.turn ht5)
                      have CL := hide (cLog_any w5 W.heap.size q hq3 _ sv5 lp5 hrep5 (by have := (compact_ok HRk.out (by omega)).len; omega))
                      rw [HLs.out] at CL
                      clear hrep5 ht5 CC HI4 HP4 HSf4
                      go_wp2_with fail
                      refine CL.out.mono ?_
                      rintro e w6 ⟨he, hb6⟩
                      have HI6 := hide (HI5.out.kept hb6)
                      have HSf6 := hide (HSf5.out.turn (Turn.of_below (lo := 0) (hi := 136) hb6 HI5.out.clu.way.lt))
                      have CE := hide (encode_any w6.heap.size _ j w6 HSf6.out.here (Nat.le_refl _) HI6.out.tabs (small_of_limits HLj.out))
                      clear hb6 CL HI5 HP5 HSf5
                      have HNx : Hid (∀ w7, Below w6.heap.size w6 w7 → LInv W w7 (S.put q (compactOf (S.r q))) 8600000 (fun k => if k = q then (S.r q).bs else Bl k) ∧ SafeB w7 W.heap.size (.slice y2 j.length f2) j) := fun w7 hb => ⟨HI6.out.kept hb, HSf6.out.turn (Turn.of_below (lo := 0) (hi := 136) hb HI6.out.clu.way.lt)⟩
                      have HAll7 : Hid (∀ k, k < 3 → ((S.put q (compactOf (S.r q))).r k).up = true ∧ ((S.put q (compactOf (S.r q))).r k).bs = j) := fun k hk => by
                        by_cases e : k = q
                        · subst e; rw [put_r]; exact HAll.out k hk
                        · have e2 : (S.put q (compactOf (S.r q))).r k = S.r k := by simp [CS.put, e]
                          rw [e2]; exact HAll.out k hk
                      by_cases hj0 : j = []
                      · rw [if_pos hj0] at he
                        subst he
                        have HJ0 := hide hj0
                        clear HI6 HSf6 hj0
                        go_wp2_with fail
                        refine CE.out.mono ?_
                        rintro e w7 ⟨⟨n7, hc7, rfl⟩, hb7⟩
                        obtain rfl := hc7.uni (.inr (.inr ⟨rfl, HOj.out, HLj.out⟩))
                        have HI7 := hide (HNx.out w7 hb7)
                        have hjb : ((j.length : Int) == 0) = true := by rw [HJ0.out]; rfl
                        clear hc7 hb7 CE HNx
                        go_wp2
                        go_roundw
                        case rel => exact ⟨q + 1, _, _, by omega, by go_num, HI7.out.1, HI7.out.2, HMs.out, HAll7.out⟩
                        case measure => simp [intOf]; omega
                      · rw [if_neg hj0] at he
                        subst he
                        have hjl : ¬ j.length = 0 := fun e => hj0 (List.eq_nil_of_length_eq_zero e)
                        have hji : ¬ (j.length : Int) = 0 := by omega
                        clear HI6 HSf6
                        go_wp2_with fail
                        refine CE.out.mono ?_
                        rintro e w7 ⟨⟨n7, hc7, rfl⟩, hb7⟩
                        obtain rfl := hc7.uni (.inr (.inr ⟨rfl, HOj.out, HLj.out⟩))
                        have HI7 := hide (HNx.out w7 hb7)
                        clear hc7 hb7 CE HNx
                        go_wp2
                        go_roundw
                        case rel => exact ⟨q + 1, _, _, by omega, by go_num, HI7.out.1, HI7.out.2, HMs.out, HAll7.out⟩
                        case measure => simp [intOf]; omega
                    · have hqi : ¬ (q : Int) < 3 := by omega
                      have CM := hide (cMessages_any wr W.heap.size S.ms HI.out.clu.way (fun m hm => by rw [HMs.out] at hm; cases hm))
                      rw [HMs.out] at CM
                      go_wp2_with fail
                      refine CM.out.mono ?_
                      rintro e w3 ⟨v3, rfl, ho3, hb3⟩
                      obtain ⟨a3, c3, rfl⟩ := own_shape ho3
                      have HE := hide (HI.out.kept hb3).below
                      clear ho3 hb3 CM HI
                      go_wp2
                      go_ret
                      exact ⟨rfl, HE.out⟩
end Go.Proofs.YtamcclcbmenjdaaGreatDoor

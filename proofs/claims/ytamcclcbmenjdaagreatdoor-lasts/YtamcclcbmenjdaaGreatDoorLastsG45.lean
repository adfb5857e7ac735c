/- 'choirkeep.Lasts', for any two lists of steps (100 of each are done) and any numbers: what a replica had when it was synced or compacted it has behind any crash and restart, whatever came between; and a second restart changes nothing. The first form's statement and its card: no condition beside the row's own. -/
import Derived.Test.YtamcclcbmenjdaaGreatDoorLastsG44
import Derived.Deep.CutBlock
import Derived.Test.YtamcclcbmenjdaaGreatDoorLastsG22
import Derived.Test.YtamcclcbmenjdaaGreatDoorLastsG23
import Derived.Test.YtamcclcbmenjdaaGreatDoorLastsG43
/- choirkeep's Lasts. -/
namespace Go.Proofs.YtamcclcbmenjdaaGreatDoor
open Go.RowKit Go.Lib

set_option maxRecDepth 100000 in
set_option maxHeartbeats 2000000 in
theorem lasts_any (W : World) (v1 v2 : Value) (l1 l2 : List ActIn) (rr keep again : Int) (cp : Bool) (h1 : ActsAt W W.heap.size v1 l1) (h2 : ActsAt W W.heap.size v2 l2) (hT : Tabs W) (hr : Rng64 rr) (hkp : Rng64 keep) (hag : Rng64 again) :
    Calls Tryz.prog 7 #[v1, .int .i64 rr, .bool cp, v2, .int .i64 keep, .int .i64 again] W fun e w' => e = .returned (.bool true) ∧ Below W.heap.size W w' := by
  obtain ⟨xa, xc, rfl, -⟩ := id h1
  obtain ⟨ya, yc, rfl, -⟩ := id h2
  have hlt := hT.lt
  have HX := hide h1
  have HY := hide h2
  have HR := hide hr
  have HKp := hide hkp
  have HAg := hide hag
  have C1 := hide (begun_any W hT)
  clear h1 h2 hT hr hkp hag
  go_enter Tryz.func7, Tryz.ntmps7
  go_wp2_with fail
  refine C1.out.mono ?_
  rintro e w1 hbe
  obtain rfl := hbe.ans
  have HI1 : Hid (LInv W w1 Sb3 180033 (fun _ => [])) := ⟨hbe.clu, ok_b3, fun k _ => step_last begS3 (step_last begS2 (step_last begS1 (show Lasting [] (S0.r k) from last_r0))), hbe.tabs, hbe.below, hlt⟩
  clear C1 hbe
  go_upto_block 0 with fail
  go_cut [15] from 39 to 54 (fun _ wx => ∃ (S : CS) (B : Nat → List Ser), Hid (LInv W wx S 7000000 B))
  case first =>
    go_wp2_with fail
    go_loopw [15] (fun i wr => ∃ (m : Nat) (S : CS), m ≤ 100 ∧ m ≤ l1.length ∧ i = .int .i64 m ∧ Hid (LInv W wr S (60011 * m + 180033) (fun _ => []))) (fun i _ => l1.length - (intOf i).toNat)
    case atStart => exact ⟨0, Sb3, by omega, Nat.zero_le _, rfl, HI1.out⟩
    case round =>
      clear HI1
      obtain ⟨m, S, hm, hml, rfl, HI⟩ := hrel
      have HI0 : Hid (LInv W wr S 7000000 (fun _ => [])) := ⟨HI.out.clu, HI.out.ok.mono (by omega), HI.out.last, HI.out.tabs, HI.out.below, HI.out.two⟩
      by_cases hlt2 : m < l1.length
      · have hmi : (m : Int) < (l1.length : Int) := by omega
        by_cases h100 : m < 100
        · have h2i : (m : Int) < 100 := by omega
          obtain ⟨x, hx⟩ : ∃ x, l1[m]? = some x := ⟨_, List.getElem?_eq_getElem hlt2⟩
          obtain ⟨xb, xo, ra, rc, rfl, hxb, hxo, c0, c1, c2, c3, c4, hR⟩ := (HX.out.below HI.out.below).get hx
          have C2 := hide (act_step wr W.heap.size _ S x ra rc W.heap.size HI.out.clu HI.out.ok (by omega) HI.out.tabs HI.out.two hxo HI.out.below.size hR)
          obtain ⟨kd, r2, a2, c5, raws⟩ := x
          simp only at c0 c1 c2 c3 c4 C2
          clear hx hR hxo HI0
          go_wp2_with fail
          refine C2.out.mono ?_
          rintro e w3 ⟨bv3, b, S', rfl, hst, hc3, ht3, hf3⟩
          have HI3 : Hid (LInv W w3 S' (60011 * (m + 1) + 180033) (fun _ => [])) := by
            have e : 60011 * m + 180033 + 60011 = 60011 * (m + 1) + 180033 := by omega
            rw [← e]; exact HI.out.step hst hc3 ht3
          clear hst hc3 ht3 hf3 C2 HI c0 c1 c2 c3 c4
          go_wp2
          go_roundw
          case rel => exact ⟨m + 1, S', by omega, by omega, by go_num, HI3.out⟩
          case measure => simp [intOf]; omega
        · have h2i : ¬ (m : Int) < 100 := by omega
          clear HI
          go_wp2
          go_meet
          exact ⟨S, _, HI0.out⟩
      · have hmi : ¬ (m : Int) < (l1.length : Int) := by omega
        clear HI
        go_wp2
        go_meet
        exact ⟨S, _, HI0.out⟩
  case rest =>
    clear HI1 HX
    obtain ⟨S, B, HI⟩ := hcut
    have CP : Hid (Calls Tryz.prog 22 #[.int .i64 rr, .int .i64 3] wc fun e w' => e = .returned (.int .i64 (pk rr 3 : Nat)) ∧ w' = wc) := hide (pick_any rr 3 wc HR.out.1 HR.out.2 (by omega) (by omega))
    have hk3 : pk rr 3 < 3 := pk_lt _ _ (by omega)
    generalize pk rr 3 = k at *
    go_wp2_with fail
    refine CP.out.mono ?_
    rintro e w2 ⟨rfl, rfl⟩
    clear CP HR
    obtain ⟨sv, lp, hrep⟩ := HI.out.clu.rep k hk3
    have HRk := hide (HI.out.ok.rep k hk3)
    have CR := hide (cRestart_any w2 W.heap.size k 7000000 hk3 _ sv lp hrep HRk.out.len (by omega) HI.out.tabs HI.out.two)
    clear hrep
    go_wp2_with fail
    refine CR.out.mono ?_
    rintro e w3 ⟨n, r3, sv3, lp3, rfl, hr3, hrep3, ht3⟩
    have HI3 := hide (HI.out.put hk3 hrep3 ht3 (restart_ok HRk.out hr3) (last_restart (HI.out.last k hk3) hr3))
    have HRk3 := hide (restart_ok HRk.out hr3)
    have HU3 : Hid (r3.up = true) := restart_up hr3
    have HL3 := hide (last_restart (HI.out.last k hk3) hr3)
    have HP3 := hide hrep3
    clear hr3 hrep3 ht3 CR HI HRk
    go_upto_if 60 with fail
    go_cut [] from 61 to 66 (fun wx => ∃ (S : CS) (B : Nat → List Ser), Hid (LInv W wx S 7000000 B) ∧ Hid (B k = (S.r k).bs) ∧ Hid ((S.r k).up = true))
    case first =>
      cases cp with
      | true =>
        have CC := hide (cCompact_any w3 W.heap.size k 7000000 hk3 r3 sv3 lp3 HP3.out HRk3.out HI3.out.tabs HI3.out.two)
        go_wp2_with fail
        refine CC.out.mono ?_
        rintro e w4 ⟨sv4, lp4, he, hrep4, ht4⟩
        rw [if_pos HU3.out] at he hrep4
        subst he
        have HI4 := hide (HI3.out.put hk3 hrep4 ht4 (compact_ok HRk3.out (by omega)) (compact_all HRk3.out))
        clear hrep4 ht4 CC HI3 HP3
        go_wp2
        go_meet
        exact ⟨_, _, HI4.out, (by show (if k = k then r3.bs else _) = ((_ : CS).r k).bs; rw [if_pos rfl, put_r]; rfl), (by show ((_ : CS).r k).up = true; rw [put_r]; exact HU3.out)⟩
      | false =>
        have CC := hide (cSync_any w3 W.heap.size k hk3 r3 sv3 lp3 HP3.out)
        go_wp2_with fail
        refine CC.out.mono ?_
        rintro e w4 ⟨he, hrep4, ht4⟩
        rw [if_pos HU3.out] at he hrep4
        subst he
        have HI4 := hide (HI3.out.put hk3 hrep4 ht4 (sync_ok HRk3.out) (sync_all HL3.out HU3.out))
        clear hrep4 ht4 CC HI3 HP3
        go_wp2
        go_meet
        exact ⟨_, _, HI4.out, (by show (if k = k then r3.bs else _) = ((_ : CS).r k).bs; rw [if_pos rfl, put_r]), (by show ((_ : CS).r k).up = true; rw [put_r]; exact HU3.out)⟩
    case rest =>
      clear HI3 HRk3 HU3 HL3 HP3
      obtain ⟨S, B, HI, HB, HU⟩ := hcut
      obtain ⟨sv, lp, hrep⟩ := HI.out.clu.rep k hk3
      have HRk := hide (HI.out.ok.rep k hk3)
      have C5 := hide (khas_any wc W.heap.size k _ hk3 _ sv lp hrep HRk.out)
      clear hrep
      go_wp2_with fail
      refine C5.out.mono ?_
      rintro e w5 ⟨hr, hb5⟩
      rcases hr with ⟨hd, _⟩ | ⟨_, x, c, rfl, hf⟩
      · rw [HU.out] at hd; cases hd
      have HI5 := hide (HI.out.kept hb5)
      have hs5 := hb5.size
      have hcb5 := HI.out.clu.way.lt
      have HSf := hide (safe_fresh (fresh_mono hf (show W.heap.size + 1 ≤ wc.heap.size by omega)) HRk.out.rng)
      have HLim := hide (small_of_limits HRk.out.lim)
      generalize (S.r k).bs = B0 at *
      clear hb5 hf C5 HI HRk HU
      go_upto_block 2 with fail
      go_cut [18] from 75 to 90 (fun _ wx => ∃ (S : CS), Hid (LInv W wx S 14000000 B) ∧ Hid (Turn w5 wx W.heap.size 0 136))
      case first =>
        go_wp2_with fail
        go_loopw [18] (fun i wr => ∃ (m : Nat) (S : CS), m ≤ 100 ∧ m ≤ l2.length ∧ i = .int .i64 m ∧ Hid (LInv W wr S (60011 * m + 7000000) B) ∧ Hid (Turn w5 wr W.heap.size 0 136)) (fun i _ => l2.length - (intOf i).toNat)
        case atStart => exact ⟨0, S, by omega, Nat.zero_le _, rfl, HI5.out, Turn.refl _ _ _ _⟩
        case round =>
          clear HI5
          obtain ⟨m, S, hm, hml, rfl, HI, HTn⟩ := hrel
          have HI0 : Hid (LInv W wr S 14000000 B) := ⟨HI.out.clu, HI.out.ok.mono (by omega), HI.out.last, HI.out.tabs, HI.out.below, HI.out.two⟩
          by_cases hlt2 : m < l2.length
          · have hmi : (m : Int) < (l2.length : Int) := by omega
            by_cases h100 : m < 100
            · have h2i : (m : Int) < 100 := by omega
              obtain ⟨x, hx⟩ : ∃ x, l2[m]? = some x := ⟨_, List.getElem?_eq_getElem hlt2⟩
              obtain ⟨xb, xo, ra, rc, rfl, hxb, hxo, c0, c1, c2, c3, c4, hR⟩ := (HY.out.below HI.out.below).get hx
              have C2 := hide (act_step wr W.heap.size _ S x ra rc W.heap.size HI.out.clu HI.out.ok (by omega) HI.out.tabs HI.out.two hxo HI.out.below.size hR)
              obtain ⟨kd, r2, a2, c5, raws⟩ := x
              simp only at c0 c1 c2 c3 c4 C2
              clear hx hR hxo HI0
              go_wp2_with fail
              refine C2.out.mono ?_
              rintro e w3 ⟨bv3, b, S', rfl, hst, hc3, ht3, hf3⟩
              have HI3 : Hid (LInv W w3 S' (60011 * (m + 1) + 7000000) B) := by
                have e : 60011 * m + 7000000 + 60011 = 60011 * (m + 1) + 7000000 := by omega
                rw [← e]; exact HI.out.step hst hc3 ht3
              have HTn3 := hide (HTn.out.trans ht3)
              clear hst hc3 ht3 hf3 C2 HI HTn c0 c1 c2 c3 c4
              go_wp2
              go_roundw
              case rel => exact ⟨m + 1, S', by omega, by omega, by go_num, HI3.out, HTn3.out⟩
              case measure => simp [intOf]; omega
            · have h2i : ¬ (m : Int) < 100 := by omega
              clear HI
              go_wp2
              go_meet
              exact ⟨S, HI0.out, HTn.out⟩
          · have hmi : ¬ (m : Int) < (l2.length : Int) := by omega
            clear HI
            go_wp2
            go_meet
            exact ⟨S, HI0.out, HTn.out⟩
      case rest =>
        clear HI5 HY
        obtain ⟨S, HI, HTn⟩ := hcut
        obtain ⟨sv, lp, hrep⟩ := HI.out.clu.rep k hk3
        have HRk := hide (HI.out.ok.rep k hk3)
        have CC := hide (cCrash_any wc W.heap.size k 14000000 hk3 _ sv lp keep hrep HRk.out (by omega) HKp.out.1 HKp.out.2)
        clear hrep
        go_wp2_with fail
        refine CC.out.mono ?_
        rintro e w6 ⟨sv6, lp6, he, hrep6, ht6⟩
        generalize (if (S.r k).up = true then (0 : Int) else 5) = n6 at he
        subst he
        have HD6 : Hid ((if (S.r k).up = true then crashOf (S.r k) keep else S.r k).up = false) := by
          show (if (S.r k).up = true then crashOf (S.r k) keep else S.r k).up = false
          split
          · rfl
          · rename_i h; simpa using h
        have HRk6 : Hid (RepOk 14000000 (if (S.r k).up = true then crashOf (S.r k) keep else S.r k)) := by
          show RepOk _ _
          split
          · exact crash_ok HRk.out keep
          · exact HRk.out
        have HL6 : Hid (Lasting (B k) (if (S.r k).up = true then crashOf (S.r k) keep else S.r k)) := by
          show Lasting _ _
          split
          · exact last_crash (HI.out.last k hk3) keep
          · exact HI.out.last k hk3
        generalize (if (S.r k).up = true then crashOf (S.r k) keep else S.r k) = r6 at *
        have HI6 := hide (HI.out.put hk3 hrep6 ht6 HRk6.out HL6.out)
        have HTn6 := hide (HTn.out.trans (ht6.wider (Nat.zero_le _) (by omega)))
        have CQ := hide (cQuery_any w6 W.heap.size k 14000000 hk3 r6 sv6 lp6 0 0 hrep6 HRk6.out)
        have HP6 := hide hrep6
        clear hrep6 ht6 CC HI HTn HRk
        go_wp2_with fail
        refine CQ.out.mono ?_
        rintro e w7 ⟨hq, hb7⟩
        obtain rfl : e = .returned (.tuple #[.slice none 0 0, .int .i64 5]) := by
          rcases hq with ⟨_, h⟩ | ⟨hu, _⟩
          · exact h
          · rw [HD6.out] at hu; cases hu
        have HI7 := hide (HI6.out.kept hb7)
        have HTn7 := hide (HTn6.out.trans (Turn.of_below hb7 HI6.out.clu.way.lt))
        have HP7 := hide (HP6.out.below hb7)
        have CR := hide (cRestart_any w7 W.heap.size k 14000000 hk3 r6 sv6 lp6 HP7.out HRk6.out.len (by omega) HI7.out.tabs HI7.out.two)
        clear hb7 CQ HI6 HTn6 HP6
        go_wp2_with fail
        refine CR.out.mono ?_
        rintro e w8 ⟨n, r8, sv8, lp8, rfl, hr8, hrep8, ht8⟩
        obtain ⟨rfl, hla8⟩ := restart_down HD6.out hr8
        have HU8 : Hid (r8.up = true) := restart_up hr8
        have HL8 := hide (last_restart HL6.out hr8)
        have HRk8 := hide (restart_ok HRk6.out hr8)
        have HI8 := hide (HI7.out.put hk3 hrep8 ht8 HRk8.out HL8.out)
        have HTn8 := hide (HTn7.out.trans (ht8.wider (Nat.zero_le _) (by omega)))
        have HLa8 := hide hla8
        have HP8 := hide hrep8
        have C9 := hide (khas_any w8 W.heap.size k _ hk3 r8 sv8 lp8 hrep8 HRk8.out)
        clear hr8 hrep8 ht8 CR HI7 HTn7 HP7 HD6 HRk6 HL6 hla8
        go_wp2_with fail
        refine C9.out.mono ?_
        rintro e w9 ⟨hr, hb9⟩
        rcases hr with ⟨hd, _⟩ | ⟨_, x9, c9, rfl, hf9⟩
        · rw [HU8.out] at hd; cases hd
        have HI9 := hide (HI8.out.kept hb9)
        have HTn9 := hide (HTn8.out.trans (Turn.of_below hb9 HI8.out.clu.way.lt))
        have HP9 := hide (HP8.out.below hb9)
        have hcb8 := HI8.out.clu.way.lt
        have HSf9 := hide (safe_fresh (fresh_mono hf9 (show W.heap.size + 1 ≤ w8.heap.size by omega)) HRk8.out.rng)
        have HGr : Hid (Grows B0 r8.bs) := by
          have h1 := last_grows HL8.out HU8.out
          rw [HB.out] at h1
          exact h1
        have CW := hide (within_any w9 _ _ B0 r8.bs (HSf.out.turn HTn9.out).here HSf9.out.here HLim.out (small_of_limits HRk8.out.lim) HRk8.out.ok HGr.out)
        clear hb9 hf9 C9 HI8 HTn8 HP8
        go_wp2_with fail
        refine CW.out.mono ?_
        rintro e w10 ⟨rfl, hb10⟩
        have HI10 := hide (HI9.out.kept hb10)
        have HP10 := hide (HP9.out.below hb10)
        have HSf10 := hide (HSf9.out.turn (Turn.of_below (lo := 0) (hi := 136) hb10 HI9.out.clu.way.lt))
        have CL := hide (cLog_any w10 W.heap.size k hk3 r8 sv8 lp8 HP10.out (by have := HRk8.out.len; omega))
        clear hb10 CW HI9 HP9 HSf9 HSf HTn9 HGr
        go_wp2_with fail
        refine CL.out.mono ?_
        rintro e w11 ⟨rfl, hb11⟩
        have HI11 := hide (HI10.out.kept hb11)
        have HP11 := hide (HP10.out.below hb11)
        have HSf11 := hide (HSf10.out.turn (Turn.of_below (lo := 0) (hi := 136) hb11 HI10.out.clu.way.lt))
        have CC := hide (cCrash_any w11 W.heap.size k 14000000 hk3 r8 sv8 lp8 again HP11.out HRk8.out (by omega) HAg.out.1 HAg.out.2)
        clear hb11 CL HI10 HP10 HSf10
        go_wp2_with fail
        refine CC.out.mono ?_
        rintro e w12 ⟨sv12, lp12, he, hrep12, ht12⟩
        rw [if_pos HU8.out] at he hrep12
        subst he
        have HI12 := hide (HI11.out.put hk3 hrep12 ht12 (crash_ok HRk8.out again) (last_crash HL8.out again))
        have HP12 := hide hrep12
        have HSf12 := hide (HSf11.out.turn ht12)
        have CR := hide (cRestart_any w12 W.heap.size k 14000000 hk3 _ sv12 lp12 hrep12 (crash_ok HRk8.out again).len (by omega) HI12.out.tabs HI12.out.two)
        clear hrep12 ht12 CC HI11 HP11 HSf11
        go_wp2_with fail
        refine CR.out.mono ?_
        rintro e w13 ⟨n, r13, sv13, lp13, rfl, hr13, hrep13, ht13⟩
        obtain ⟨rfl, hu13, hbs13, hlog13⟩ := again_same HL8.out HU8.out HLa8.out hr13
        have HRk13 := hide (restart_ok (crash_ok HRk8.out again) hr13)
        have HI13 := hide (HI12.out.put hk3 hrep13 ht13 HRk13.out (last_restart (last_crash HL8.out again) hr13))
        have HP13 := hide hrep13
        have HSf13 := hide (HSf12.out.turn ht13)
        have HU13 := hide hu13
        have HBs13 := hide hbs13
        have HLog13 := hide hlog13
        have C14 := hide (khas_any w13 W.heap.size k _ hk3 r13 sv13 lp13 hrep13 HRk13.out)
        clear hr13 hrep13 ht13 CR HI12 HP12 HSf12 hu13 hbs13 hlog13
        go_wp2_with fail
        refine C14.out.mono ?_
        rintro e w14 ⟨hr, hb14⟩
        rcases hr with ⟨hd, _⟩ | ⟨_, x14, c14, rfl, hf14⟩
        · rw [HU13.out] at hd; cases hd
        have HI14 := hide (HI13.out.kept hb14)
        have HP14 := hide (HP13.out.below hb14)
        have HSf14 := hide (HSf13.out.turn (Turn.of_below (lo := 0) (hi := 136) hb14 HI13.out.clu.way.lt))
        have CS := hide (same_iff _ _ r8.bs r13.bs w14 HSf14.out.here (hf14.batchAt HRk13.out.rng) (small_of_limits HRk8.out.lim) (small_of_limits HRk13.out.lim))
        clear hb14 hf14 C14 HI13 HP13 HSf13
        go_wp2_with fail
        refine CS.out.mono ?_
        rintro e w15 ⟨⟨r15, rfl, h15⟩, hb15⟩
        obtain rfl : r15 = true := h15.2 HBs13.out.symm
        have HI15 := hide (HI14.out.kept hb15)
        have HP15 := hide (HP14.out.below hb15)
        have CL := hide (cLog_any w15 W.heap.size k hk3 r13 sv13 lp13 HP15.out (by have := HRk13.out.len; omega))
        rw [HLog13.out] at CL
        clear hb15 h15 CS HI14 HP14 HSf14
        go_wp2_with fail
        refine CL.out.mono ?_
        rintro e w16 ⟨rfl, hb16⟩
        have HE := hide (HI15.out.kept hb16).below
        clear hb16 CL HI15 HP15
        go_wp2
        go_ret
        exact ⟨rfl, HE.out⟩
end Go.Proofs.YtamcclcbmenjdaaGreatDoor

/- A list of steps that came in: what it is in memory. -/
namespace Go.Proofs.YtamcclcbmenjdaaGreatDoor
open Go.RowKit Go.Lib Go.ChangeShapes Go.WideShapes

theorem cellsAct : Tryz.prog.cellsOf 60 = 5 := by kernel_rfl
theorem bytesAct : Tryz.prog.bytesOf 60 = 56 := by kernel_rfl
theorem cellsRaws : Tryz.prog.cellsOf 45 = 1 := by kernel_rfl
theorem trod_struct5 {H : Type} {enc : TypeId × Value → H} {P : Program} {w : World} {base : Nat} {spare : TypeId → Bool} {held : Bool} {t : TypeId} {f0 f1 f2 f3 f4 : Field} {fuel : Nat} {cs : List Value} {x : DataW H × List MemPlace} (ht : P.underlying t = some (.struct #[f0, f1, f2, f3, f4])) (h : DataW.trod enc P w base spare held fuel t cs = some x) :
    ∃ y0 y1 y2 y3 y4 n, x.1 = .agg [y0.1, y1.1, y2.1, y3.1, y4.1] ∧ cs.length = P.cellsOf t ∧ DataW.trod enc P w base spare held n f0.type ((cs.drop f0.offset).take (P.cellsOf f0.type)) = some y0 ∧
      DataW.trod enc P w base spare held n f1.type ((cs.drop f1.offset).take (P.cellsOf f1.type)) = some y1 ∧ DataW.trod enc P w base spare held n f2.type ((cs.drop f2.offset).take (P.cellsOf f2.type)) = some y2 ∧
      DataW.trod enc P w base spare held n f3.type ((cs.drop f3.offset).take (P.cellsOf f3.type)) = some y3 ∧ DataW.trod enc P w base spare held n f4.type ((cs.drop f4.offset).take (P.cellsOf f4.type)) = some y4 := by
  obtain ⟨xs, n, _, rfl, hl, hlen, hf⟩ := DataW.trod_struct ht h
  match xs, hlen with
  | [y0, y1, y2, y3, y4], _ => exact ⟨y0, y1, y2, y3, y4, n, by simp, hl, by simpa using hf 0 f0 rfl, by simpa using hf 1 f1 rfl, by simpa using hf 2 f2 rfl, by simpa using hf 3 f3 rfl, by simpa using hf 4 f4 rfl⟩
theorem Light.five {H : Type} {t : TypeId} {f0 f1 f2 f3 f4 : Field} {d0 d1 d2 d3 d4 : DataW H} (hu : Tryz.prog.underlying t = some (.struct #[f0, f1, f2, f3, f4])) (h : Light t (.agg [d0, d1, d2, d3, d4])) : Light f4.type d4 := fun n hn => by
  have hw : (DataW.agg [d0, d1, d2, d3, d4]).weights Tryz.prog t = d0.weights Tryz.prog f0.type ++ (d1.weights Tryz.prog f1.type ++ (d2.weights Tryz.prog f2.type ++ (d3.weights Tryz.prog f3.type ++ (d4.weights Tryz.prog f4.type ++ [])))) := by
    rw [DataW.weights, hu]; rfl
  apply h
  rw [hw]
  exact List.mem_append_right _ (List.mem_append_right _ (List.mem_append_right _ (List.mem_append_right _ (List.mem_append_left _ hn))))
theorem raws_cs {H : Type} {enc : TypeId × Value → H} {W : World} {n : Nat} {cs : List Value} {y : DataW H × List MemPlace} (h : DataW.trod enc Tryz.prog W 0 (fun _ => true) true n 45 cs = some y) (hw : Light 45 y.1) :
    ∃ (raws : List (Int × Int × Nat)) (ra : Option Addr) (rc : Nat), cs = [.slice ra raws.length rc] ∧ RawsAt W W.heap.size (.slice ra raws.length rc) raws ∧ raws.length ≤ 100000000000000 := by
  have hsh : ∃ a len cap, cs = [.slice a len cap] := by
    rcases Go.Deep.open_slice Tryz.underlying45 h with ⟨hcs, _⟩ | ⟨a, len', cap', m, n, D, Pl, hcs, _⟩
    · exact ⟨_, _, _, hcs⟩
    · exact ⟨_, _, _, hcs⟩
  obtain ⟨a, len, cap, rfl⟩ := hsh
  obtain ⟨d, ps⟩ := y
  obtain ⟨raws, hR, hlen⟩ := raws_of (H := H) ⟨n, h⟩
  obtain ⟨a', c', hv, _⟩ := id hR
  cases hv
  refine ⟨raws, a, cap, rfl, hR, ?_⟩
  rcases hlen with ⟨_, h0⟩ | ⟨elems, spare, rfl, h0⟩
  · omega
  · have h2 := hw.len Tryz.underlying45
    rw [Tryz.bytesRaw] at h2
    have := reachBytes_lt
    omega
/-- A step that came in. -/
def ActCells (W : World) (z : ActIn) (cs : List Value) : Prop := ∃ ra rc, cs = [.int .i64 z.kd, .int .i64 z.rr, .int .i64 z.a, .int .i64 z.c, .slice ra z.raws.length rc] ∧ z.Ok ∧ RawsAt W W.heap.size (.slice ra z.raws.length rc) z.raws
theorem act_in {H : Type} {enc : TypeId × Value → H} {W : World} (n : Nat) (cs : List Value) (y : DataW H × List MemPlace) (h : DataW.trod enc Tryz.prog W 0 (fun _ => true) true n 60 cs = some y) (hw : Light 60 y.1) : ∃ z : ActIn, ActCells W z cs := by
  obtain ⟨y0, y1, y2, y3, y4, n, hy, hl, h0, h1, h2, h3, h4⟩ := trod_struct5 Tryz.underlying60 h
  rw [hy] at hw
  have hw4 := hw.five Tryz.underlying60
  rw [cellsAct] at hl
  simp only [cellsIntR, cellsRaws] at h0 h1 h2 h3 h4
  obtain ⟨m0, e0, _, w0⟩ := DataW.trod_int Tryz.underlying3 h0
  obtain ⟨m1, e1, _, w1⟩ := DataW.trod_int Tryz.underlying3 h1
  obtain ⟨m2, e2, _, w2⟩ := DataW.trod_int Tryz.underlying3 h2
  obtain ⟨m3, e3, _, w3⟩ := DataW.trod_int Tryz.underlying3 h3
  obtain ⟨raws, ra, rc, e4, hR, hrl⟩ := raws_cs h4 hw4
  match cs, hl, e0, e1, e2, e3, e4 with
  | [c0, c1, c2, c3, c4], _, e0, e1, e2, e3, e4 =>
    simp at e0 e1 e2 e3 e4
    subst e0 e1 e2 e3 e4
    exact ⟨⟨m0, m1, m2, m3, raws⟩, ra, rc, rfl, ⟨wf_i64 w0, wf_i64 w1, wf_i64 w2, wf_i64 w3, hrl⟩, hR⟩
/-- A list of steps that came in. -/
theorem acts_of {H : Type} {enc : TypeId × Value → H} {W : World} {a0 : Option Addr} {len cap : Nat} {d : DataW H} {ps : List MemPlace} (h : DataW.Trod enc Tryz.prog W 0 (fun _ => true) true 53 (.slice a0 len cap) d ps) (hw : Light 53 d) :
    ∃ l, ActsAt W W.heap.size (.slice a0 len cap) l ∧ l.length ≤ 100000000000000 := by
  obtain ⟨fuel, hf⟩ := h
  have hf' : DataW.trod enc Tryz.prog W 0 (fun _ => true) true fuel 53 [.slice a0 len cap] = some (d, ps) := hf
  rcases Go.Deep.open_slice Tryz.underlying53 hf' with ⟨hcs, hx⟩ | ⟨a, len', cap', m, n, D, Pl, hcs, hb, hl, hm, hmm, hx, hel⟩
  · cases hcs
    exact ⟨[], ⟨none, 0, rfl, (fun x hx => by cases hx), .inl rfl⟩, by simp⟩
  · cases hcs
    simp only [if_true] at hmm
    subst hmm
    have hd : d = .slice ((List.range len).map D) ((List.range (m - len)).map fun j => D (len + j)) := congrArg Prod.fst hx
    rw [hd] at hw
    rw [cellsAct] at hel
    have each : ∀ i, i < len → ∃ z : ActIn, z.Ok ∧ W.cell? (a.add (i * 5)) = some (.int .i64 z.kd) ∧ W.cell? ((a.add (i * 5)).add 1) = some (.int .i64 z.rr) ∧ W.cell? ((a.add (i * 5)).add 2) = some (.int .i64 z.a) ∧ W.cell? ((a.add (i * 5)).add 3) = some (.int .i64 z.c) ∧
        ∃ rv, W.cell? ((a.add (i * 5)).add 4) = some rv ∧ RawsAt W W.heap.size rv z.raws := fun i hi => by
      obtain ⟨cs', h1, h2⟩ := hel i (by omega)
      obtain ⟨_, hlen, hcell⟩ := World.cells?_some h1
      obtain ⟨z, ra, rc, rfl, hok, hR⟩ := act_in n cs' _ h2 (hw.elem Tryz.underlying53 (List.mem_map.2 ⟨i, List.mem_range.2 hi, rfl⟩))
      have q0 := hcell 0 (by omega)
      have q1 := hcell 1 (by omega)
      have q2 := hcell 2 (by omega)
      have q3 := hcell 3 (by omega)
      have q4 := hcell 4 (by omega)
      have z0 : (a.add (i * 5)).add 0 = a.add (i * 5) := by unfold Addr.add; simp
      rw [z0] at q0
      exact ⟨z, hok, q0, q1, q2, q3, _, q4, hR⟩
    have hlen2 : len ≤ 100000000000000 := by
      have h1 := hw.len Tryz.underlying53
      rw [bytesAct] at h1
      simp at h1
      have := reachBytes_lt
      omega
    have : Inhabited ActIn := ⟨⟨0, 0, 0, 0, []⟩⟩
    obtain ⟨F, hF⟩ := Go.Deep.choose_lt each
    refine ⟨(List.range len).map F, ⟨some a, m, by simp, fun x hx => ?_, ?_⟩, by simpa using hlen2⟩
    · obtain ⟨i, hi, rfl⟩ := List.mem_map.1 hx
      exact (hF i (List.mem_range.1 hi)).1
    · by_cases h0 : len = 0
      · subst h0; exact .inl rfl
      · obtain ⟨b, o, spot⟩ := a
        have hs : spot = none := by
          have := (hF 0 (by omega)).2.1
          simpa [Addr.add] using World.cell?_spot this
        subst hs
        refine .inr ⟨b, o, rfl, World.block_lt_of_cell? W _ (hF 0 (by omega)).2.1, fun i x hx => ?_⟩
        have hi : i < len := by have := (List.getElem?_eq_some_iff.1 hx).1; simpa using this
        have e : x = F i := by
          rw [List.getElem?_map, List.getElem?_range hi] at hx
          exact (Option.some.inj hx).symm
        subst e
        have hh := (hF i hi).2
        simp only [addr_add] at hh
        exact hh
theorem Tryz.actReads : Tryz.prog.readableRec 53 = true := by kernel_rfl
theorem Tryz.actType : 53 < Tryz.prog.types.size := of_decide_eq_true (by kernel_rfl)
end Go.Proofs.YtamcclcbmenjdaaGreatDoor

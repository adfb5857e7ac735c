/- container/heap over join's rests (of samples): down. -/
import Derived.Test.YtcidgfdiacehmaaBothG1
namespace Go.Proofs.Ytcidgfdiacehmaa
open Go.RowKit Go.Lib

set_option maxRecDepth 100000 in
set_option maxHeartbeats 2000000 in
theorem downS_any {w0 : World} {K : Nat → Obj → Prop} {hb n : Nat} {lv : Value} {vs : List Value} {ls : List (List (Int × Nat))} (W : World) (h : HsS w0 K W hb (n + 1) lv vs ls) (hsm : ∀ l ∈ ls, ∀ x ∈ l, SmS x) (hn : n ≤ 1000000000000) (hu : Hp.DownInv leS (hdS ls) n 0) :
    Calls Try.prog 70 #[.iface 96 (.pointer (some ⟨hb, 0, none⟩)), .int .i64 0, .int .i64 n] W fun e w' => (∃ r, e = .returned (.bool r)) ∧ ∃ vs' ls', HsS w0 K w' hb (n + 1) lv vs' ls' ∧ ls'.Perm ls ∧ Hp.IsHeap leS (hdS ls') n ∧ vs'[n]? = vs[n]? ∧ ls'[n]? = ls[n]? := by
  have m1 := methS_less
  have m2 := methS_swap
  have HSm := hide hsm
  have H0 := hide h
  have HU0 := hide hu
  clear h hsm hu
  go_enter Try.func70, Try.ntmps70
  go_wp2
  go_loopw [7, 8, 9, 10] (fun iv _ _ _ wr => ∃ (i : Nat) (vs' : List Value) (ls' : List (List (Int × Nat))), i ≤ n ∧ iv = .int .i64 i ∧ Hid (HsS w0 K wr hb (n + 1) lv vs' ls') ∧ Hid (ls'.Perm ls) ∧ Hid (Hp.DownInv leS (hdS ls') n i) ∧ Hid (vs'[n]? = vs[n]? ∧ ls'[n]? = ls[n]?)) (fun iv _ _ _ _ => n - (intOf iv).toNat)
  case atStart => exact ⟨0, vs, ls, Nat.zero_le _, rfl, H0.out, List.Perm.refl _, HU0.out, rfl, rfl⟩
  case round =>
    clear H0 HU0
    obtain ⟨i, vs', ls', hi, rfl, H, HP, HU, HL⟩ := hrel
    have CL : Hid (∀ (J I : Int) (p q : Nat) (x y : (Int × Nat)) (r s : List (Int × Nat)) (W2 : World), Below wr.heap.size wr W2 → J = (p : Int) → I = (q : Int) → ls'[p]? = some (x :: r) → ls'[q]? = some (y :: s) → Calls Try.prog 94 #[.pointer (some ⟨hb, 0, none⟩), .int .i64 J, .int .i64 I] W2 fun e w' => e = .returned (.bool (decide (cmpT x y < 0))) ∧ Below W2.heap.size W2 w') := fun J I p q x y r s W2 hW hJ hI hp hq => by
      subst hJ hI
      exact lessS_any W2 (H.out.rst.kept hW) H.out.lists (fun l hl x hx => HSm.out l (HP.out.mem_iff.1 hl) x hx) p q hp hq rfl rfl
    have CS : Hid (∀ (W2 : World) (I J : Int) (p q : Nat) (v u : Value), Below wr.heap.size wr W2 → I = (p : Int) → J = (q : Int) → vs'[p]? = some v → vs'[q]? = some u → (∃ a n c, v = .slice a n c) → (∃ a n c, u = .slice a n c) → Calls Try.prog 97 #[.pointer (some ⟨hb, 0, none⟩), .int .i64 I, .int .i64 J] W2 fun e w' => e = .returned (.tuple #[]) ∧ RstS w0 K w' hb lv ((vs'.set p u).set q v)) := fun W2 I J p q v u hW hI hJ hp hq hv hu => by
      subst hI hJ
      exact swapS_any W2 (H.out.rst.kept hW) p q hp hq hv hu
    by_cases hA : n ≤ 2 * i + 1
    · have HI := hide (Hp.down_done HU.out fun k hk h => by omega)
      have a1 : (n : Int) ≤ 2 * (i : Int) + 1 := by omega
      clear HU CL CS
      go_wp2
      go_ret
      exact ⟨⟨_, rfl⟩, vs', ls', H.out, HP.out, HI.out, HL.out.1, HL.out.2⟩
    · have a1 : ¬ (n : Int) ≤ 2 * (i : Int) + 1 := by omega
      have a2 : decide ((n : Int) ≤ 2 * (i : Int) + 1) = false := decide_eq_false a1
      obtain ⟨x, rx, v, hlx, hvx, hsx, hdx⟩ := H.out.cons (i := i) (by omega)
      obtain ⟨y, ry, u, hly, hvy, hsy, hdy⟩ := H.out.cons (i := 2 * i + 1) (by omega)
      by_cases hB : n ≤ 2 * i + 2
      · have hmin : ∀ d, d < n → (d = 2 * i + 1 ∨ d = 2 * i + 2) → leS (hdS ls' (2 * i + 1)) (hdS ls' d) := fun d hd h => by
          obtain rfl : d = 2 * i + 1 := by omega
          exact (leS_tot _ _).elim id id
        have b1 : ¬ 2 * (i : Int) + 1 + 1 < (n : Int) := by omega
        have b2 : decide (2 * (i : Int) + 1 + 1 < (n : Int)) = false := decide_eq_false b1
        have neg := cmpT_ok.neg y x
        by_cases hc : cmpT y x < 0
        · have hnl : ¬ leS (hdS ls' i) (hdS ls' (2 * i + 1)) := by
            rw [hdx, hdy]; unfold leS; omega
          have hun := Hp.down_step leS_tot HU.out (c := 2 * i + 1) (by omega) (by omega) hmin hnl
          rw [← hdS_swap hlx hly] at hun
          have HUn := hide hun
          have HPn := hide ((Hp.set_swap_perm ls' i (2 * i + 1) _ _ hlx hly).trans HP.out)
          have HLn := hide (H.out.lists.swap hvx hvy hlx hly)
          have HLen : Hid (((ls'.set i (y :: ry)).set (2 * i + 1) (x :: rx)).length = n + 1) := by show _ = _; simp [H.out.len]
          have HLl : Hid (((vs'.set i u).set (2 * i + 1) v)[n]? = vs[n]? ∧ ((ls'.set i (y :: ry)).set (2 * i + 1) (x :: rx))[n]? = ls[n]?) := by
            rw [List.getElem?_set_ne (by omega), List.getElem?_set_ne (by omega), List.getElem?_set_ne (by omega), List.getElem?_set_ne (by omega)]
            exact HL.out
          have hdt : decide (cmpT y x < 0) = true := decide_eq_true hc
          have CL2 := hide (fun J I hJ hI => CL.out J I (2 * i + 1) i y x ry rx wr (Below.refl _ _) hJ hI hly hlx)
          have CS2 := hide (fun W2 I J hW hI hJ => CS.out W2 I J i (2 * i + 1) v u hW hI hJ hvx hvy hsx hsy)
          clear hun hnl HU HP hmin HL H CL CS neg hlx hly hvx hvy hsx hsy hdx hdy
          go_wp2_with fail
          refine (CL2.out _ _ (by omega) (by omega)).mono ?_
          rintro e w5 ⟨rfl, hb5⟩
          rw [hdt]
          have HB5 := hide ((Below.refl _ _).trans (hb5.mono (Nat.le_refl _)))
          clear hb5 hc hdt CL2
          go_wp2_with fail
          refine (CS2.out _ _ _ HB5.out (by omega) (by omega)).mono ?_
          rintro e w6 ⟨rfl, hr6⟩
          have HR6 := hide hr6
          clear hr6 CS2 HB5
          go_wp2
          go_roundw
          case rel => exact ⟨2 * i + 1, _, _, by omega, by go_num, ⟨HR6.out, HLn.out, HLen.out⟩, HPn.out, HUn.out, HLl.out⟩
          case measure => simp [intOf]; omega
        · have hle : leS (hdS ls' i) (hdS ls' (2 * i + 1)) := by
            rw [hdx, hdy]; unfold leS; omega
          have HI := hide (Hp.down_done HU.out fun k hk hh => leS_tr hle (hmin k hk hh))
          have hdf : decide (cmpT y x < 0) = false := decide_eq_false hc
          have CL2 := hide (fun J I hJ hI => CL.out J I (2 * i + 1) i y x ry rx wr (Below.refl _ _) hJ hI hly hlx)
          clear HU hmin CL CS neg hlx hly hvx hvy hsx hsy hdx hdy hle
          go_wp2_with fail
          refine (CL2.out _ _ (by omega) (by omega)).mono ?_
          rintro e w5 ⟨rfl, hb5⟩
          rw [hdf]
          have HH := hide (H.out.kept ((Below.refl _ _).trans (hb5.mono (Nat.le_refl _))))
          clear hb5 hc hdf CL2
          go_wp2
          go_ret
          exact ⟨⟨_, rfl⟩, vs', ls', HH.out, HP.out, HI.out, HL.out.1, HL.out.2⟩
      · have b1 : 2 * (i : Int) + 1 + 1 < (n : Int) := by omega
        obtain ⟨z, rz, t, hlz, hvz, hsz, hdz⟩ := H.out.cons (i := 2 * i + 2) (by omega)
        have negz := cmpT_ok.neg z y
        have CL1 := hide (fun J I hJ hI => CL.out J I (2 * i + 2) (2 * i + 1) z y rz ry wr (Below.refl _ _) hJ hI hlz hly)
        by_cases hcz : cmpT z y < 0
        · have hmin : ∀ d, d < n → (d = 2 * i + 1 ∨ d = 2 * i + 2) → leS (hdS ls' (2 * i + 2)) (hdS ls' d) := fun d hd h => by
            rcases h with rfl | rfl
            · rw [hdz, hdy]; unfold leS; omega
            · exact (leS_tot _ _).elim id id
          have hdt0 : decide (cmpT z y < 0) = true := decide_eq_true hcz
          go_wp2_with fail
          refine (CL1.out _ _ (by omega) (by omega)).mono ?_
          rintro e w4 ⟨rfl, hb4⟩
          rw [hdt0]
          have HB4 := hide hb4
          clear hb4 hdt0 CL1 negz
          have neg := cmpT_ok.neg z x
          by_cases hc : cmpT z x < 0
          · have hnl : ¬ leS (hdS ls' i) (hdS ls' (2 * i + 2)) := by
              rw [hdx, hdz]; unfold leS; omega
            have hun := Hp.down_step leS_tot HU.out (c := 2 * i + 2) (by omega) (by omega) hmin hnl
            rw [← hdS_swap hlx hlz] at hun
            have HUn := hide hun
            have HPn := hide ((Hp.set_swap_perm ls' i (2 * i + 2) _ _ hlx hlz).trans HP.out)
            have HLn := hide (H.out.lists.swap hvx hvz hlx hlz)
            have HLen : Hid (((ls'.set i (z :: rz)).set (2 * i + 2) (x :: rx)).length = n + 1) := by show _ = _; simp [H.out.len]
            have HLl : Hid (((vs'.set i t).set (2 * i + 2) v)[n]? = vs[n]? ∧ ((ls'.set i (z :: rz)).set (2 * i + 2) (x :: rx))[n]? = ls[n]?) := by
              rw [List.getElem?_set_ne (by omega), List.getElem?_set_ne (by omega), List.getElem?_set_ne (by omega), List.getElem?_set_ne (by omega)]
              exact HL.out
            have hdt : decide (cmpT z x < 0) = true := decide_eq_true hc
            have CL2 := hide (fun J I hJ hI => CL.out J I (2 * i + 2) i z x rz rx w4 HB4.out hJ hI hlz hlx)
            have CS2 := hide (fun W2 I J hW hI hJ => CS.out W2 I J i (2 * i + 2) v t hW hI hJ hvx hvz hsx hsz)
            clear hun hnl HU HP hmin HL H CL CS neg hlx hly hvx hvy hsx hsy hdx hdy hlz hvz hsz hdz hcz
            go_wp2_with fail
            refine (CL2.out _ _ (by omega) (by omega)).mono ?_
            rintro e w5 ⟨rfl, hb5⟩
            rw [hdt]
            have HB5 := hide (HB4.out.trans (hb5.mono (by have := HB4.out.size; omega)))
            clear hb5 hc hdt CL2
            go_wp2_with fail
            refine (CS2.out _ _ _ HB5.out (by omega) (by omega)).mono ?_
            rintro e w6 ⟨rfl, hr6⟩
            have HR6 := hide hr6
            clear hr6 CS2 HB5
            go_wp2
            go_roundw
            case rel => exact ⟨2 * i + 2, _, _, by omega, by go_num, ⟨HR6.out, HLn.out, HLen.out⟩, HPn.out, HUn.out, HLl.out⟩
            case measure => simp [intOf]; omega
          · have hle : leS (hdS ls' i) (hdS ls' (2 * i + 2)) := by
              rw [hdx, hdz]; unfold leS; omega
            have HI := hide (Hp.down_done HU.out fun k hk hh => leS_tr hle (hmin k hk hh))
            have hdf : decide (cmpT z x < 0) = false := decide_eq_false hc
            have CL2 := hide (fun J I hJ hI => CL.out J I (2 * i + 2) i z x rz rx w4 HB4.out hJ hI hlz hlx)
            clear HU hmin CL CS neg hlx hly hvx hvy hsx hsy hdx hdy hle hlz hvz hsz hdz hcz
            go_wp2_with fail
            refine (CL2.out _ _ (by omega) (by omega)).mono ?_
            rintro e w5 ⟨rfl, hb5⟩
            rw [hdf]
            have HH := hide (H.out.kept (HB4.out.trans (hb5.mono (by have := HB4.out.size; omega))))
            clear hb5 hc hdf CL2
            go_wp2
            go_ret
            exact ⟨⟨_, rfl⟩, vs', ls', HH.out, HP.out, HI.out, HL.out.1, HL.out.2⟩
        · have hmin : ∀ d, d < n → (d = 2 * i + 1 ∨ d = 2 * i + 2) → leS (hdS ls' (2 * i + 1)) (hdS ls' d) := fun d hd h => by
            rcases h with rfl | rfl
            · exact (leS_tot _ _).elim id id
            · rw [hdz, hdy]; unfold leS; omega
          have hdf0 : decide (cmpT z y < 0) = false := decide_eq_false hcz
          go_wp2_with fail
          refine (CL1.out _ _ (by omega) (by omega)).mono ?_
          rintro e w4 ⟨rfl, hb4⟩
          rw [hdf0]
          have HB4 := hide hb4
          clear hb4 hdf0 CL1 negz
          have neg := cmpT_ok.neg y x
          by_cases hc : cmpT y x < 0
          · have hnl : ¬ leS (hdS ls' i) (hdS ls' (2 * i + 1)) := by
              rw [hdx, hdy]; unfold leS; omega
            have hun := Hp.down_step leS_tot HU.out (c := 2 * i + 1) (by omega) (by omega) hmin hnl
            rw [← hdS_swap hlx hly] at hun
            have HUn := hide hun
            have HPn := hide ((Hp.set_swap_perm ls' i (2 * i + 1) _ _ hlx hly).trans HP.out)
            have HLn := hide (H.out.lists.swap hvx hvy hlx hly)
            have HLen : Hid (((ls'.set i (y :: ry)).set (2 * i + 1) (x :: rx)).length = n + 1) := by show _ = _; simp [H.out.len]
            have HLl : Hid (((vs'.set i u).set (2 * i + 1) v)[n]? = vs[n]? ∧ ((ls'.set i (y :: ry)).set (2 * i + 1) (x :: rx))[n]? = ls[n]?) := by
              rw [List.getElem?_set_ne (by omega), List.getElem?_set_ne (by omega), List.getElem?_set_ne (by omega), List.getElem?_set_ne (by omega)]
              exact HL.out
            have hdt : decide (cmpT y x < 0) = true := decide_eq_true hc
            have CL2 := hide (fun J I hJ hI => CL.out J I (2 * i + 1) i y x ry rx w4 HB4.out hJ hI hly hlx)
            have CS2 := hide (fun W2 I J hW hI hJ => CS.out W2 I J i (2 * i + 1) v u hW hI hJ hvx hvy hsx hsy)
            clear hun hnl HU HP hmin HL H CL CS neg hlx hly hvx hvy hsx hsy hdx hdy hlz hvz hsz hdz hcz
            go_wp2_with fail
            refine (CL2.out _ _ (by omega) (by omega)).mono ?_
            rintro e w5 ⟨rfl, hb5⟩
            rw [hdt]
            have HB5 := hide (HB4.out.trans (hb5.mono (by have := HB4.out.size; omega)))
            clear hb5 hc hdt CL2
            go_wp2_with fail
            refine (CS2.out _ _ _ HB5.out (by omega) (by omega)).mono ?_
            rintro e w6 ⟨rfl, hr6⟩
            have HR6 := hide hr6
            clear hr6 CS2 HB5
            go_wp2
            go_roundw
            case rel => exact ⟨2 * i + 1, _, _, by omega, by go_num, ⟨HR6.out, HLn.out, HLen.out⟩, HPn.out, HUn.out, HLl.out⟩
            case measure => simp [intOf]; omega
          · have hle : leS (hdS ls' i) (hdS ls' (2 * i + 1)) := by
              rw [hdx, hdy]; unfold leS; omega
            have HI := hide (Hp.down_done HU.out fun k hk hh => leS_tr hle (hmin k hk hh))
            have hdf : decide (cmpT y x < 0) = false := decide_eq_false hc
            have CL2 := hide (fun J I hJ hI => CL.out J I (2 * i + 1) i y x ry rx w4 HB4.out hJ hI hly hlx)
            clear HU hmin CL CS neg hlx hly hvx hvy hsx hsy hdx hdy hle hlz hvz hsz hdz hcz
            go_wp2_with fail
            refine (CL2.out _ _ (by omega) (by omega)).mono ?_
            rintro e w5 ⟨rfl, hb5⟩
            rw [hdf]
            have HH := hide (H.out.kept (HB4.out.trans (hb5.mono (by have := HB4.out.size; omega))))
            clear hb5 hc hdf CL2
            go_wp2
            go_ret
            exact ⟨⟨_, rfl⟩, vs', ls', HH.out, HP.out, HI.out, HL.out.1, HL.out.2⟩
end Go.Proofs.Ytcidgfdiacehmaa

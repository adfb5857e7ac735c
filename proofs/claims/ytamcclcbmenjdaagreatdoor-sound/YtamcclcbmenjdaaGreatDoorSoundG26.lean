/- 'choirkeep.Sound', for any list of steps (200 of them are done): whatever happens, each replica has nothing but what was written somewhere; and as long as it is up, what it once had. The first form's statement and its card: no condition beside the row's own. -/
import Derived.Test.YtamcclcbmenjdaaGreatDoorSoundG25
import Derived.Test.YtamcclcbmenjdaaGreatDoorSoundG5
import Derived.Test.YtamcclcbmenjdaaGreatDoorSoundG24
/- container/heap over join's rests (of samples): down. -/
namespace Go.Proofs.YtamcclcbmenjdaaGreatDoor
open Go.RowKit Go.Lib

set_option maxRecDepth 100000 in
set_option maxHeartbeats 2000000 in
theorem downS_any {w0 : World} {K : Nat → Obj → Prop} {hb n : Nat} {lv : Value} {vs : List Value} {ls : List (List (Int × Nat))} (W : World) (h : HsS w0 K W hb (n + 1) lv vs ls) (hsm : ∀ l ∈ ls, ∀ x ∈ l, SmS x) (hn : n ≤ 1000000000000) (hu : Hp.DownInv leS (hdS ls) n 0) :
    Calls Tryz.prog 197 #[.iface 229 (.pointer (some ⟨hb, 0, none⟩)), .int .i64 0, .int .i64 n] W fun e w' => (∃ r, e = .returned (.bool r)) ∧ ∃ vs' ls', HsS w0 K w' hb (n + 1) lv vs' ls' ∧ ls'.Perm ls ∧ Hp.IsHeap leS (hdS ls') n ∧ vs'[n]? = vs[n]? ∧ ls'[n]? = ls[n]? := by
  have m1 := methS_less
  have m2 := methS_swap
  have HSm := hide hsm
  have H0 := hide h
  have HU0 := hide hu
  clear h hsm hu
  go_enter Tryz.func197, Tryz.ntmps197
  go_wp2
  go_loopw [7, 8, 9, 10] (fun iv _ _ _ wr => ∃ (i : Nat) (vs' : List Value) (ls' : List (List (Int × Nat))), i ≤ n ∧ iv = .int .i64 i ∧ Hid (HsS w0 K wr hb (n + 1) lv vs' ls') ∧ Hid (ls'.Perm ls) ∧ Hid (Hp.DownInv leS (hdS ls') n i) ∧ Hid (vs'[n]? = vs[n]? ∧ ls'[n]? = ls[n]?)) (fun iv _ _ _ _ => n - (intOf iv).toNat)
  case atStart => exact ⟨0, vs, ls, Nat.zero_le _, rfl, H0.out, List.Perm.refl _, HU0.out, rfl, rfl⟩
  case round =>
    clear H0 HU0
    obtain ⟨i, vs', ls', hi, rfl, H, HP, HU, HL⟩ := hrel
    have CL : Hid (∀ (J I : Int) (p q : Nat) (x y : (Int × Nat)) (r s : List (Int × Nat)) (W2 : World), Below wr.heap.size wr W2 → J = (p : Int) → I = (q : Int) → ls'[p]? = some (x :: r) → ls'[q]? = some (y :: s) → Calls Tryz.prog 232 #[.pointer (some ⟨hb, 0, none⟩), .int .i64 J, .int .i64 I] W2 fun e w' => e = .returned (.bool (decide (cmpT x y < 0))) ∧ Below W2.heap.size W2 w') := fun J I p q x y r s W2 hW hJ hI hp hq => by
      subst hJ hI
      exact lessS_any W2 (H.out.rst.kept hW) H.out.lists (fun l hl x hx => HSm.out l (HP.out.mem_iff.1 hl) x hx) p q hp hq rfl rfl
    have CS : Hid (∀ (W2 : World) (I J : Int) (p q : Nat) (v u : Value), Below wr.heap.size wr W2 → I = (p : Int) → J = (q : Int) → vs'[p]? = some v → vs'[q]? = some u → (∃ a n c, v = .slice a n c) → (∃ a n c, u = .slice a n c) → Calls Tryz.prog 235 #[.pointer (some ⟨hb, 0, none⟩), .int .i64 I, .int .i64 J] W2 fun e w' => e = .returned (.tuple #[]) ∧ RstS w0 K w' hb lv ((vs'.set p u).set q v)) := fun W2 I J p q v u hW hI hJ hp hq hv hu => by
      subst hI hJ
      exact swapS_any W2 (H.out.rst.kept hW) p q hp hq hv hu
    by_cases hA : n ≤ 2 * i + 1
    · have HI := hide (Hp.down_done HU.out fun k hk h => by omega)
      have a1 : (n : Int) ≤ 2 * (i : Int) + 1 := by omega
      clear HU CL CS
      go_wp2
      go_ret
      exact ⟨⟨_, rfl⟩, vs', ls', H.out, HP.out, HI.out, HL.out.1, HL.out.2⟩
    · have a1 : ¬ (n : Int) ≤ 2 * (i : Int) + 1 := by omega
      have a2 : decide ((n : Int) ≤ 2 * (i : Int) + 1) = false := decide_eq_false a1
      obtain ⟨x, rx, v, hlx, hvx, hsx, hdx⟩ := H.out.cons (i := i) (by omega)
      obtain ⟨y, ry, u, hly, hvy, hsy, hdy⟩ := H.out.cons (i := 2 * i + 1) (by omega)
      by_cases hB : n ≤ 2 * i + 2
      · have hmin : ∀ d, d < n → (d = 2 * i + 1 ∨ d = 2 * i + 2) → leS (hdS ls' (2 * i + 1)) (hdS ls' d) := fun d hd h => by
          obtain rfl : d = 2 * i + 1 := by omega
          exact (leS_tot _ _).elim id id
        have b1 : ¬ 2 * (i : Int) + 1 + 1 < (n : Int) := by omega
        have b2 : decide (2 * (i : Int) + 1 + 1 < (n : Int)) = false := decide_eq_false b1
        have neg := cmpT_ok.neg y x
        by_cases hc : cmpT y x < 0
        · have hnl : ¬ leS (hdS ls' i) (hdS ls' (2 * i + 1)) := by
            rw [hdx, hdy]; unfold leS; omega
          have hun := Hp.down_step leS_tot HU.out (c := 2 * i + 1) (by omega) (by omega) hmin hnl
          rw [← hdS_swap hlx hly] at hun
          have HUn := hide hun
          have HPn := hide ((Hp.set_swap_perm ls' i (2 * i + 1) _ _ hlx hly).trans HP.out)
          have HLn := hide (H.out.lists.swap hvx hvy hlx hly)
          have HLen : Hid (((ls'.set i (y :: ry)).set (2 * i + 1) (x :: rx)).length = n + 1) := by show _ = _; simp [H.out.len]
          have HLl : Hid (((vs'.set i u).set (2 * i + 1) v)[n]? = vs[n]? ∧ ((ls'.set i (y :: ry)).set (2 * i + 1) (x :: rx))[n]? = ls[n]?) := by
            rw [List.getElem?_set_ne (by omega), List.getElem?_set_ne (by omega), List.getElem?_set_ne (by omega), List.getElem?_set_ne (by omega)]
            exact HL.out
          have hdt : decide (cmpT y x < 0) = true := decide_eq_true hc
          have CL2 := hide (fun J I hJ hI => CL.out J I (2 * i + 1) i y x ry rx wr (Below.refl _ _) hJ hI hly hlx)
          have CS2 := hide (fun W2 I J hW hI hJ => CS.out W2 I J i (2 * i + 1) v u hW hI hJ hvx hvy hsx hsy)
          clear hun hnl HU HP hmin HL H CL CS neg hlx hly hvx hvy hsx hsy hdx hdy
          go_wp2_with fail
          refine (CL2.out _ _ (by omega) (by omega)).mono ?_
          rintro e w5 ⟨rfl, hb5⟩
          rw [hdt]
          have HB5 := hide ((Below.refl _ _).trans (hb5.mono (Nat.le_refl _)))
          clear hb5 hc hdt CL2
          go_wp2_with fail
          refine (CS2.out _ _ _ HB5.out (by omega) (by omega)).mono ?_
          rintro e w6 ⟨rfl, hr6⟩
          have HR6 := hide hr6
          clear hr6 CS2 HB5
          go_wp2
          go_roundw
          case rel => exact ⟨2 * i + 1, _, _, by omega, by go_num, ⟨HR6.out, HLn.out, HLen.out⟩, HPn.out, HUn.out, HLl.out⟩
          case measure => simp [intOf]; omega
        · have hle : leS (hdS ls' i) (hdS ls' (2 * i + 1)) := by
            rw [hdx, hdy]; unfold leS; omega
          have HI := hide (Hp.down_done HU.out fun k hk hh => leS_tr hle (hmin k hk hh))
          have hdf : decide (cmpT y x < 0) = false := decide_eq_false hc
          have CL2 := hide (fun J I hJ hI => CL.out J I (2 * i + 1) i y x ry rx wr (Below.refl _ _) hJ hI hly hlx)
          clear HU hmin CL CS neg hlx hly hvx hvy hsx hsy hdx hdy hle
          go_wp2_with fail
          refine (CL2.out _ _ (by omega) (by omega)).mono ?_
          rintro e w5 ⟨rfl, hb5⟩
          rw [hdf]
          have HH := hide (H.out.kept ((Below.refl _ _).trans (hb5.mono (Nat.le_refl _))))
          clear hb5 hc hdf CL2
          go_wp2
          go_ret
          exact ⟨⟨_, rfl⟩, vs', ls', HH.out, HP.out, HI.out, HL.out.1, HL.out.2⟩
      · have b1 : 2 * (i : Int) + 1 + 1 < (n : Int) := by omega
        obtain ⟨z, rz, t, hlz, hvz, hsz, hdz⟩ := H.out.cons (i := 2 * i + 2) (by omega)
        have negz := cmpT_ok.neg z y
        have CL1 := hide (fun J I hJ hI => CL.out J I (2 * i + 2) (2 * i + 1) z y rz ry wr (Below.refl _ _) hJ hI hlz hly)
        by_cases hcz : cmpT z y < 0
        · have hmin : ∀ d, d < n → (d = 2 * i + 1 ∨ d = 2 * i + 2) → leS (hdS ls' (2 * i + 2)) (hdS ls' d) := fun d hd h => by
            rcases h with rfl | rfl
            · rw [hdz, hdy]; unfold leS; omega
            · exact (leS_tot _ _).elim id id
          have hdt0 : decide (cmpT z y < 0) = true := decide_eq_true hcz
          go_wp2_with fail
          refine (CL1.out _ _ (by omega) (by omega)).mono ?_
          rintro e w4 ⟨rfl, hb4⟩
          rw [hdt0]
          have HB4 := hide hb4
          clear hb4 hdt0 CL1 negz
          have neg := cmpT_ok.neg z x
          by_cases hc : cmpT z x < 0
          · have hnl : ¬ leS (hdS ls' i) (hdS ls' (2 * i + 2)) := by
              rw [hdx, hdz]; unfold leS; omega
            have hun := Hp.down_step leS_tot HU.out (c := 2 * i + 2) (by omega) (by omega) hmin hnl
            rw [← hdS_swap hlx hlz] at hun
            have HUn := hide hun
            have HPn := hide ((Hp.set_swap_perm ls' i (2 * i + 2) _ _ hlx hlz).trans HP.out)
            have HLn := hide (H.out.lists.swap hvx hvz hlx hlz)
            have HLen : Hid (((ls'.set i (z :: rz)).set (2 * i + 2) (x :: rx)).length = n + 1) := by show _ = _; simp [H.out.len]
            have HLl : Hid (((vs'.set i t).set (2 * i + 2) v)[n]? = vs[n]? ∧ ((ls'.set i (z :: rz)).set (2 * i + 2) (x :: rx))[n]? = ls[n]?) := by
              rw [List.getElem?_set_ne (by omega), List.getElem?_set_ne (by omega), List.getElem?_set_ne (by omega), List.getElem?_set_ne (by omega)]
              exact HL.out
            have hdt : decide (cmpT z x < 0) = true := decide_eq_true hc
            have CL2 := hide (fun J I hJ hI => CL.out J I (2 * i + 2) i z x rz rx w4 HB4.out hJ hI hlz hlx)
            have CS2 := hide (fun W2 I J hW hI hJ => CS.out W2 I J i (2 * i + 2) v t hW hI hJ hvx hvz hsx hsz)
            clear hun hnl HU HP hmin HL H CL CS neg hlx hly hvx hvy hsx hsy hdx hdy hlz hvz hsz hdz hcz
            go_wp2_with fail
            refine (CL2.out _ _ (by omega) (by omega)).mono ?_
            rintro e w5 ⟨rfl, hb5⟩
            rw [hdt]
            have HB5 := hide (HB4.out.trans (hb5.mono (by have := HB4.out.size; omega)))
            clear hb5 hc hdt CL2
            go_wp2_with fail
            refine (CS2.out _ _ _ HB5.out (by omega) (by omega)).mono ?_
            rintro e w6 ⟨rfl, hr6⟩
            have HR6 := hide hr6
            clear hr6 CS2 HB5
            go_wp2
            go_roundw
            case rel => exact ⟨2 * i + 2, _, _, by omega, by go_num, ⟨HR6.out, HLn.out, HLen.out⟩, HPn.out, HUn.out, HLl.out⟩
            case measure => simp [intOf]; omega
          · have hle : leS (hdS ls' i) (hdS ls' (2 * i + 2)) := by
              rw [hdx, hdz]; unfold leS; omega
            have HI := hide (Hp.down_done HU.out fun k hk hh => leS_tr hle (hmin k hk hh))
            have hdf : decide (cmpT z x < 0) = false := decide_eq_false hc
            have CL2 := hide (fun J I hJ hI => CL.out J I (2 * i + 2) i z x rz rx w4 HB4.out hJ hI hlz hlx)
            clear HU hmin CL CS neg hlx hly hvx hvy hsx hsy hdx hdy hle hlz hvz hsz hdz hcz
            go_wp2_with fail
            refine (CL2.out _ _ (by omega) (by omega)).mono ?_
            rintro e w5 ⟨rfl, hb5⟩
            rw [hdf]
            have HH := hide (H.out.kept (HB4.out.trans (hb5.mono (by have := HB4.out.size; omega))))
            clear hb5 hc hdf CL2
            go_wp2
            go_ret
            exact ⟨⟨_, rfl⟩, vs', ls', HH.out, HP.out, HI.out, HL.out.1, HL.out.2⟩
        · have hmin : ∀ d, d < n → (d = 2 * i + 1 ∨ d = 2 * i + 2) → leS (hdS ls' (2 * i + 1)) (hdS ls' d) := fun d hd h => by
            rcases h with rfl | rfl
            · exact (leS_tot _ _).elim id id
            · rw [hdz, hdy]; unfold leS; omega
          have hdf0 : decide (cmpT z y < 0) = false := decide_eq_false hcz
          go_wp2_with fail
          refine (CL1.out _ _ (by omega) (by omega)).mono ?_
          rintro e w4 ⟨rfl, hb4⟩
          rw [hdf0]
          have HB4 := hide hb4
          clear hb4 hdf0 CL1 negz
          have neg := cmpT_ok.neg y x
          by_cases hc : cmpT y x < 0
          · have hnl : ¬ leS (hdS ls' i) (hdS ls' (2 * i + 1)) := by
              rw [hdx, hdy]; unfold leS; omega
            have hun := Hp.down_step leS_tot HU.out (c := 2 * i + 1) (by omega) (by omega) hmin hnl
            rw [← hdS_swap hlx hly] at hun
            have HUn := hide hun
            have HPn := hide ((Hp.set_swap_perm ls' i (2 * i + 1) _ _ hlx hly).trans HP.out)
            have HLn := hide (H.out.lists.swap hvx hvy hlx hly)
            have HLen : Hid (((ls'.set i (y :: ry)).set (2 * i + 1) (x :: rx)).length = n + 1) := by show _ = _; simp [H.out.len]
            have HLl : Hid (((vs'.set i u).set (2 * i + 1) v)[n]? = vs[n]? ∧ ((ls'.set i (y :: ry)).set (2 * i + 1) (x :: rx))[n]? = ls[n]?) := by
              rw [List.getElem?_set_ne (by omega), List.getElem?_set_ne (by omega), List.getElem?_set_ne (by omega), List.getElem?_set_ne (by omega)]
              exact HL.out
            have hdt : decide (cmpT y x < 0) = true := decide_eq_true hc
            have CL2 := hide (fun J I hJ hI => CL.out J I (2 * i + 1) i y x ry rx w4 HB4.out hJ hI hly hlx)
            have CS2 := hide (fun W2 I J hW hI hJ => CS.out W2 I J i (2 * i + 1) v u hW hI hJ hvx hvy hsx hsy)
            clear hun hnl HU HP hmin HL H CL CS neg hlx hly hvx hvy hsx hsy hdx hdy hlz hvz hsz hdz hcz
            go_wp2_with fail
            refine (CL2.out _ _ (by omega) (by omega)).mono ?_
            rintro e w5 ⟨rfl, hb5⟩
            rw [hdt]
            have HB5 := hide (HB4.out.trans (hb5.mono (by have := HB4.out.size; omega)))
            clear hb5 hc hdt CL2
            go_wp2_with fail
            refine (CS2.out _ _ _ HB5.out (by omega) (by omega)).mono ?_
            rintro e w6 ⟨rfl, hr6⟩
            have HR6 := hide hr6
            clear hr6 CS2 HB5
            go_wp2
            go_roundw
            case rel => exact ⟨2 * i + 1, _, _, by omega, by go_num, ⟨HR6.out, HLn.out, HLen.out⟩, HPn.out, HUn.out, HLl.out⟩
            case measure => simp [intOf]; omega
          · have hle : leS (hdS ls' i) (hdS ls' (2 * i + 1)) := by
              rw [hdx, hdy]; unfold leS; omega
            have HI := hide (Hp.down_done HU.out fun k hk hh => leS_tr hle (hmin k hk hh))
            have hdf : decide (cmpT y x < 0) = false := decide_eq_false hc
            have CL2 := hide (fun J I hJ hI => CL.out J I (2 * i + 1) i y x ry rx w4 HB4.out hJ hI hly hlx)
            clear HU hmin CL CS neg hlx hly hvx hvy hsx hsy hdx hdy hle hlz hvz hsz hdz hcz
            go_wp2_with fail
            refine (CL2.out _ _ (by omega) (by omega)).mono ?_
            rintro e w5 ⟨rfl, hb5⟩
            rw [hdf]
            have HH := hide (H.out.kept (HB4.out.trans (hb5.mono (by have := HB4.out.size; omega))))
            clear hb5 hc hdf CL2
            go_wp2
            go_ret
            exact ⟨⟨_, rfl⟩, vs', ls', HH.out, HP.out, HI.out, HL.out.1, HL.out.2⟩
end Go.Proofs.YtamcclcbmenjdaaGreatDoor

/- container/heap over join's rests (of samples): Push, Pop; add, takeLeast. -/
namespace Go.Proofs.YtamcclcbmenjdaaGreatDoor
open Go.RowKit Go.Lib

/-- A heap, whole: whatever its slices are. -/
def HeapS (w0 : World) (K : Nat → Obj → Prop) (W : World) (hb : Nat) (ls : List (List (Int × Nat))) : Prop := ∃ lv vs ls', HsS w0 K W hb ls'.length lv vs ls' ∧ ls'.Perm ls ∧ Hp.IsHeap leS (hdS ls') ls'.length
theorem HeapS.perm {w0 : World} {K : Nat → Obj → Prop} {W : World} {hb : Nat} {ls ms : List (List (Int × Nat))} (h : HeapS w0 K W hb ls) (hp : ls.Perm ms) : HeapS w0 K W hb ms := by
  obtain ⟨lv, vs, ls', h1, h2, h3⟩ := h
  exact ⟨lv, vs, ls', h1, h2.trans hp, h3⟩
theorem HeapS.move {w0 : World} {K K' : Nat → Obj → Prop} {W W' : World} {hb : Nat} {ls : List (List (Int × Nat))} (h : HeapS w0 K W hb ls) (hs : W.heap.size ≤ W'.heap.size) (hk : ∀ k, k < W.heap.size → (∀ o, ¬ K k o) → W'.heap[k]? = W.heap[k]?) (hK : ∀ k o, K' k o → W'.heap[k]? = some o ∧ ((∃ o', K k o') ∨ W.heap.size ≤ k)) (hb0 : Below w0.heap.size w0 W') : HeapS w0 K' W' hb ls := by
  obtain ⟨lv, vs, ls', h1, h2, h3⟩ := h
  exact ⟨lv, vs, ls', ⟨h1.rst.move hs hk hK hb0, h1.lists, h1.len⟩, h2, h3⟩
theorem HeapS.kp {w0 : World} {K : Nat → Obj → Prop} {W : World} {hb : Nat} {ls : List (List (Int × Nat))} (h : HeapS w0 K W hb ls) {k : Nat} {o : Obj} (hk : K k o) : W.heap[k]? = some o := by
  obtain ⟨lv, vs, ls', h1, _⟩ := h; exact (h1.rst.kp k o hk).1
theorem HeapS.below {w0 : World} {K : Nat → Obj → Prop} {W : World} {hb : Nat} {ls : List (List (Int × Nat))} (h : HeapS w0 K W hb ls) : Below w0.heap.size w0 W := by
  obtain ⟨lv, vs, ls', h1, _⟩ := h; exact h1.rst.below
theorem HeapS.kept {w0 : World} {K : Nat → Obj → Prop} {W W' : World} {hb : Nat} {ls : List (List (Int × Nat))} (h : HeapS w0 K W hb ls) (hb' : Below W.heap.size W W') : HeapS w0 K W' hb ls := by
  obtain ⟨lv, vs, ls', h1, h2, h3⟩ := h
  exact ⟨lv, vs, ls', h1.kept hb', h2, h3⟩
theorem hdS_app {ls : List (List (Int × Nat))} {l : List (Int × Nat)} {k : Nat} (h : k < ls.length) : hdS (ls ++ [l]) k = hdS ls k := by
  unfold hdS; rw [List.getD_eq_getElem?_getD, List.getD_eq_getElem?_getD, List.getElem?_append_left h]
theorem ListsS.snoc {w0 : World} {vs : List Value} {ls : List (List (Int × Nat))} {v : Value} {l : List (Int × Nat)} (h : ListsS w0 vs ls) (hv : SamplesAt w0 w0.heap.size v l) (hl : l ≠ []) : ListsS w0 (vs ++ [v]) (ls ++ [l]) := by
  refine ⟨by simp [h.len], fun i u m hu hm => ?_⟩
  rcases getElem?_snoc hu with ⟨hi, hu⟩ | ⟨hi, rfl⟩
  · rw [List.getElem?_append_left (by rw [← h.len]; exact hi)] at hm
    exact h.each i u m hu hm
  · rw [hi, h.len, List.getElem?_append_right (Nat.le_refl _), Nat.sub_self] at hm
    cases hm
    exact ⟨hv, hl⟩

set_option maxRecDepth 100000 in
set_option maxHeartbeats 1000000 in
theorem heapPushS_any {w0 : World} {K : Nat → Obj → Prop} {hb : Nat} {ls : List (List (Int × Nat))} (W : World) (h : HeapS w0 K W hb ls) (a : Option Addr) (m c : Nat) (l : List (Int × Nat)) (hv : SamplesAt w0 w0.heap.size (.slice a m c) l) (hl : l ≠ []) (hsm : ∀ k ∈ l :: ls, ∀ x ∈ k, SmS x) (hn : ls.length ≤ 1000000000) :
    Calls Tryz.prog 159 #[.iface 229 (.pointer (some ⟨hb, 0, none⟩)), .iface 35 (.slice a m c)] W fun e w' => e = .returned (.tuple #[]) ∧ HeapS w0 K w' hb (l :: ls) := by
  obtain ⟨lv, vs, ls', h1, h2, h3⟩ := h
  have hlen := h2.length_eq
  have hvl := h1.lists.len
  have m1 := methS_push
  have m2 := methS_len
  have C1 := hide (pushS_any W h1.rst a m c (by omega))
  have HL := hide (h1.lists.snoc hv hl)
  have HU := hide (Hp.up_start (g := hdS (ls' ++ [l])) h3 fun k hk => hdS_app hk)
  have HP := hide h2
  have HSm := hide hsm
  clear h1 h3 h2 hsm hv
  go_enter Tryz.func159, Tryz.ntmps159
  go_wp2_with fail
  refine C1.out.mono ?_
  rintro e w1 ⟨rfl, lv1, hr1⟩
  have hlv : (vs ++ [Value.slice a m c]).length = ls'.length + 1 := by simp [hvl]
  have C2 := hide (lenS_any w1 hr1)
  rw [hlv] at C2
  have H1 : Hid (HsS w0 K w1 hb (ls'.length + 1) lv1 (vs ++ [.slice a m c]) (ls' ++ [l])) := ⟨hr1, HL.out, by simp⟩
  have C3 : Hid (∀ J : Int, J = (ls'.length : Int) → Calls Tryz.prog 192 #[.iface 229 (.pointer (some ⟨hb, 0, none⟩)), .int .i64 J] w1 fun e w' => e = .returned (.tuple #[]) ∧ ∃ vs2 ls2, HsS w0 K w' hb (ls'.length + 1) lv1 vs2 ls2 ∧ ls2.Perm (ls' ++ [l]) ∧ Hp.IsHeap leS (hdS ls2) (ls'.length + 1)) := fun J hJ => by
    subst hJ
    exact upS_any w1 H1.out (fun k hk x hx => HSm.out k (by
      rcases List.mem_append.1 hk with hk | hk
      · exact List.mem_cons_of_mem _ (HP.out.mem_iff.1 hk)
      · simp at hk; subst hk; exact List.mem_cons_self ..) x hx) ls'.length (by omega) (by omega) HU.out
  clear hr1 C1 hlv H1
  go_wp2_with fail
  refine C2.out.mono ?_
  rintro e w2 ⟨rfl, rfl⟩
  clear C2
  go_wp2_with fail
  refine (C3.out _ (by omega)).mono ?_
  rintro e w3 ⟨rfl, vs2, ls2, h4, h5, h6⟩
  have HF : Hid (HeapS w0 K w3 hb (l :: ls)) := by
    have hl2 := h4.len
    refine ⟨lv1, vs2, ls2, by rw [hl2]; exact h4, h5.trans ?_, by rw [hl2]; exact h6⟩
    exact (List.perm_append_comm (l₁ := ls') (l₂ := [l])).trans (List.Perm.cons _ HP.out)
  clear h4 h5 h6 C3
  go_wp2
  go_end0
  exact ⟨rfl, HF.out⟩

theorem ListsS.cut {w0 : World} {vs : List Value} {ls : List (List (Int × Nat))} (h : ListsS w0 vs ls) (n : Nat) : ListsS w0 (vs.take n) (ls.take n) := by
  refine ⟨by simp [h.len], fun i u m hu hm => ?_⟩
  rw [List.getElem?_take] at hu hm
  by_cases hi : i < n
  · rw [if_pos hi] at hu hm; exact h.each i u m hu hm
  · rw [if_neg hi] at hu; cases hu

set_option maxRecDepth 100000 in
set_option maxHeartbeats 1000000 in
theorem heapPopS_any {w0 : World} {K : Nat → Obj → Prop} {hb : Nat} {ls : List (List (Int × Nat))} (W : World) (h : HeapS w0 K W hb ls) (hsm : ∀ k ∈ ls, ∀ x ∈ k, SmS x) (hn : ls.length ≤ 1000000000) (h0 : ls ≠ []) :
    Calls Tryz.prog 166 #[.iface 229 (.pointer (some ⟨hb, 0, none⟩))] W fun e w' => ∃ a m c x t ms, e = .returned (.iface 35 (.slice a m c)) ∧ SamplesAt w0 w0.heap.size (.slice a m c) (x :: t) ∧ ls.Perm ((x :: t) :: ms) ∧ (∀ k ∈ ls, ∀ y, k.head? = some y → cmpT x y ≤ 0) ∧ HeapS w0 K w' hb ms := by
  obtain ⟨lv, vs, ls', h1, h2, h3⟩ := h
  have hlen := h2.length_eq
  have hvl := h1.lists.len
  obtain ⟨n, hn1⟩ : ∃ n, ls'.length = n + 1 := ⟨ls'.length - 1, by have : 0 < ls.length := List.length_pos_iff.2 h0; omega⟩
  rw [hn1] at h1 h3
  obtain ⟨x, t, v, hlx, hvx, ⟨a, m, c, rfl⟩, hdx⟩ := h1.cons (i := 0) (by omega)
  obtain ⟨y, s, u, hly, hvy, hsy, hdy⟩ := h1.cons (i := n) (by omega)
  have hmin : ∀ k ∈ ls, ∀ y, k.head? = some y → cmpT x y ≤ 0 := fun k hk z hz => by
    obtain ⟨i, hi, e⟩ := List.mem_iff_getElem.1 (h2.mem_iff.2 hk)
    have := Hp.heap_min leS_tot leS_tr h3 i (by omega)
    cases k with
    | nil => cases hz
    | cons p q =>
      cases hz
      rw [hdx, hdS_of (ls := ls') (k := i) (by rw [List.getElem?_eq_getElem hi, e])] at this
      exact this
  have hA := (h1.lists.each 0 _ _ hvx hlx).1
  have m1 := methS_swap
  have m2 := methS_len
  have m3 := methS_pop
  have C1 := hide (lenS_any W h1.rst)
  rw [show vs.length = n + 1 by omega] at C1
  have C2 : Hid (∀ J : Int, J = (n : Int) → Calls Tryz.prog 235 #[.pointer (some ⟨hb, 0, none⟩), .int .i64 0, .int .i64 J] W fun e w' => e = .returned (.tuple #[]) ∧ RstS w0 K w' hb lv ((vs.set 0 u).set n (.slice a m c))) := fun J hJ => by
    subst hJ
    exact swapS_any W h1.rst 0 n hvx hvy ⟨_, _, _, rfl⟩ hsy
  have hl1 := h1.lists.swap hvx hvy hlx hly
  have hd1 : Hp.DownInv leS (hdS ((ls'.set 0 (y :: s)).set n (x :: t))) n 0 := by
    refine Hp.down_start h3 fun k hk0 hk => ?_
    rw [hdS_swap hlx hly]
    unfold Hp.swp
    rw [if_neg (by omega), if_neg (by omega)]
  have hlast : ((ls'.set 0 (y :: s)).set n (x :: t))[n]? = some (x :: t) := by rw [List.getElem?_set_self (by simp; omega)]
  have hvlast : ((vs.set 0 u).set n (.slice a m c))[n]? = some (.slice a m c) := by rw [List.getElem?_set_self (by simp; omega)]
  have hperm := (Hp.set_swap_perm ls' 0 n _ _ hlx hly).trans h2
  have HA := hide hA
  have HMin := hide hmin
  have HL1 := hide hl1
  have HD1 := hide hd1
  have HLast := hide hlast
  have HVLast := hide hvlast
  have HPerm := hide hperm
  have HSm := hide hsm
  have HLen1 : Hid (((ls'.set 0 (y :: s)).set n (x :: t)).length = n + 1) := by show _ = _; simp [hn1]
  have HVLen1 : Hid (((vs.set 0 u).set n (.slice a m c)).length = n + 1) := by show _ = _; simp; omega
  clear h1 h2 h3 hl1 hd1 hlast hvlast hperm hmin hA hsm hlx hly hvx hvy hsy hdx hdy
  generalize (ls'.set 0 (y :: s)).set n (x :: t) = ls1 at *
  generalize (vs.set 0 u).set n (.slice a m c) = vs1 at *
  go_enter Tryz.func166, Tryz.ntmps166
  go_wp2_with fail
  refine C1.out.mono ?_
  rintro e w1 ⟨rfl, rfl⟩
  clear C1
  go_wp2_with fail
  refine (C2.out _ (by omega)).mono ?_
  rintro e w2 ⟨rfl, hr2⟩
  have C3 : Hid (∀ J : Int, J = (n : Int) → Calls Tryz.prog 197 #[.iface 229 (.pointer (some ⟨hb, 0, none⟩)), .int .i64 0, .int .i64 J] w2 fun e w' => (∃ r, e = .returned (.bool r)) ∧ ∃ vs' ls', HsS w0 K w' hb (n + 1) lv vs' ls' ∧ ls'.Perm ls1 ∧ Hp.IsHeap leS (hdS ls') n ∧ vs'[n]? = vs1[n]? ∧ ls'[n]? = ls1[n]?) := fun J hJ => by
    subst hJ
    exact downS_any w2 ⟨hr2, HL1.out, HLen1.out⟩ (fun k hk x hx => HSm.out k (HPerm.out.mem_iff.1 hk) x hx) (by omega) HD1.out
  clear hr2 C2
  go_wp2_with fail
  refine (C3.out _ (by omega)).mono ?_
  rintro e w3 ⟨⟨rb, rfl⟩, vs3, ls3, h4, h5, h6, h7, h8⟩
  have hv3 := take_last (h7.trans HVLast.out) (by rw [h4.lists.len, h4.len])
  have hl3 := take_last (h8.trans HLast.out) h4.len
  have hr3 := h4.rst
  rw [hv3] at hr3
  have hl3n : (ls3.take n).length = n := by rw [List.length_take, h4.len]; omega
  have hv3n : (vs3.take n).length = n := by rw [List.length_take, h4.lists.len, h4.len]; omega
  have C4 := hide (popS_any w3 hr3 (by omega))
  have HL3 := hide (h4.lists.cut n)
  have HP3 : Hid (ls.Perm ((x :: t) :: ls3.take n)) := by
    have := (h5.trans HPerm.out).symm
    rw [hl3] at this
    exact this.trans List.perm_append_comm
  have HH3 : Hid (Hp.IsHeap leS (hdS (ls3.take n)) n) := fun k hk0 hk => by
    have e : ∀ q, q < n → hdS (ls3.take n) q = hdS ls3 q := fun q hq => by
      unfold hdS; rw [List.getD_eq_getElem?_getD, List.getD_eq_getElem?_getD, List.getElem?_take, if_pos hq]
    rw [e _ (by omega), e _ hk]; exact h6 k hk0 hk
  clear h4 h5 h6 h7 h8 hv3 hl3 hr3 C3
  go_wp2_with fail
  refine C4.out.mono ?_
  rintro e w4 ⟨rfl, lv4, hr4⟩
  have HF : Hid (HeapS w0 K w4 hb (ls3.take n)) := ⟨lv4, vs3.take n, ls3.take n, by rw [hl3n]; exact ⟨hr4, HL3.out, hl3n⟩, List.Perm.refl _, by rw [hl3n]; exact HH3.out⟩
  clear hr4 C4
  go_wp2
  go_ret
  exact ⟨a, m, c, x, t, ls3.take n, rfl, HA.out, HP3.out, HMin.out, HF.out⟩
end Go.Proofs.YtamcclcbmenjdaaGreatDoor

/- A list of samples without its first. -/
namespace Go.Proofs.YtamcclcbmenjdaaGreatDoor
open Go.RowKit Go.Lib
theorem SamplesAt.tail {w : World} {B b o k n : Nat} {x : Int × Nat} {r : List (Int × Nat)} (h : SamplesAt w B (.slice (some ⟨b, o, none⟩) n k) (x :: r)) : n = r.length + 1 ∧ r.length ≤ k - 1 ∧ SamplesAt w B (.slice (some ⟨b, o + 2, none⟩) r.length (k - 1)) r := by
  obtain ⟨a, cap, e, hc, hr, h2⟩ := h
  cases e
  have hc' : r.length + 1 ≤ k := hc
  refine ⟨rfl, by omega, _, _, rfl, by omega, fun y hy => hr y (List.mem_cons_of_mem _ hy), ?_⟩
  rcases h2 with h2 | ⟨b', o', e, hb, hcell⟩
  · cases h2
  · cases e
    refine .inr ⟨b, o + 2, rfl, hb, fun i y hy => ?_⟩
    have := hcell (i + 1) y (by rw [List.getElem?_cons_succ]; exact hy)
    rw [show o + (i + 1) * 2 = o + 2 + i * 2 by omega] at this
    exact this

theorem SamplesAt.none (w : World) (B : Nat) (a : Option Addr) (q : Nat) : SamplesAt w B (.slice a 0 q) [] := ⟨a, q, rfl, Nat.zero_le _, fun x h => (by cases h), .inl rfl⟩
end Go.Proofs.YtamcclcbmenjdaaGreatDoor

/- join's rests (of samples): add, takeLeast. -/
namespace Go.Proofs.YtamcclcbmenjdaaGreatDoor
open Go.RowKit Go.Lib

set_option maxRecDepth 100000 in
set_option maxHeartbeats 1000000 in
theorem addS_any {w0 : World} {K : Nat → Obj → Prop} {hb : Nat} {ls : List (List (Int × Nat))} (W : World) (h : HeapS w0 K W hb ls) (a : Option Addr) (c : Nat) (l : List (Int × Nat)) (hv : SamplesAt w0 w0.heap.size (.slice a l.length c) l) (hsm : ∀ k ∈ l :: ls, ∀ x ∈ k, SmS x) (hn : ls.length ≤ 1000000000) :
    Calls Tryz.prog 193 #[.pointer (some ⟨hb, 0, none⟩), .slice a l.length c] W fun e w' => e = .returned (.tuple #[]) ∧ HeapS w0 K w' hb (restOf l ls) := by
  cases l with
  | nil =>
    have HH : Hid (HeapS w0 K W hb (restOf [] ls)) := by show HeapS w0 K W hb (restOf [] ls); rw [restOf, if_pos rfl]; exact h
    clear h hv hsm
    go_enter Tryz.func193, Tryz.ntmps193
    go_wp2
    go_end0
    exact ⟨rfl, HH.out⟩
  | cons x t =>
    have C := hide (heapPushS_any W h a (x :: t).length c (x :: t) hv (by simp) hsm hn)
    have hlen : (x :: t).length = t.length + 1 := rfl
    rw [hlen] at C ⊢
    clear h hv hsm hlen
    go_enter Tryz.func193, Tryz.ntmps193
    go_wp2_with fail
    refine C.out.mono ?_
    rintro e w1 ⟨rfl, h1⟩
    have HH : Hid (HeapS w0 K w1 hb (restOf (x :: t) ls)) := by show HeapS w0 K w1 hb (restOf (x :: t) ls); rw [restOf, if_neg (by simp)]; exact h1
    clear h1 C
    go_wp2
    go_end0
    exact ⟨rfl, HH.out⟩


/-- One more block to keep. -/
theorem HeapS.more {w0 : World} {K : Nat → Obj → Prop} {W : World} {hb : Nat} {ls : List (List (Int × Nat))} (h : HeapS w0 K W hb ls) (ob : Obj) : HeapS w0 (fun k o => K k o ∨ k = W.heap.size ∧ o = ob) (W.alloc ob) hb ls := by
  refine h.move (by simp) (fun k hk _ => heap_alloc_old W _ hk) (fun k o hk => ?_) (h.below.alloc h.below.size _)
  rcases hk with hk | ⟨rfl, rfl⟩
  · exact ⟨(heap_alloc_old W _ (lt_of_heapS (h.kp hk))).trans (h.kp hk), .inl ⟨o, hk⟩⟩
  · exact ⟨alloc_heap_new W _, .inr (Nat.le_refl _)⟩
/-- Fewer blocks to keep, one of the others written. -/
theorem HeapS.less {w0 : World} {K K' : Nat → Obj → Prop} {W : World} {hb : Nat} {ls : List (List (Int × Nat))} (h : HeapS w0 K W hb ls) (hk : ∀ k o, K' k o → K k o) : HeapS w0 K' W hb ls :=
  h.move (Nat.le_refl _) (fun _ _ _ => rfl) (fun k o ho => ⟨h.kp (hk k o ho), .inl ⟨o, hk k o ho⟩⟩) h.below
theorem HeapS.lt {w0 : World} {K : Nat → Obj → Prop} {W : World} {hb : Nat} {ls : List (List (Int × Nat))} (h : HeapS w0 K W hb ls) : hb < W.heap.size := by
  obtain ⟨lv, vs, ls', h1, _⟩ := h; exact h1.rst.lt

theorem results_cell1S {fn : Func} {p : Tmp} {ty : TypeId} (h : fn.results = #[.cell p ty]) (tmps : Array Value) (P : Program) (w : World) :
    (results fn tmps).run P w = ((asAddr (tmps.getD p undef)).run P w).andThen fun a w₁ => (loadVar ty a).run P w₁ := by
  simp only [results, h]
  simp [Sem.run_bind, Result.andThen]

set_option maxRecDepth 100000 in
set_option maxHeartbeats 1000000 in
theorem takeLeastS_any {w0 : World} {K : Nat → Obj → Prop} {hb : Nat} {ls : List (List (Int × Nat))} (W : World) (h : HeapS w0 K W hb ls) (hsm : ∀ k ∈ ls, ∀ x ∈ k, SmS x) (hn : ls.length ≤ 1000000000) (h0 : ls ≠ []) :
    Calls Tryz.prog 195 #[.pointer (some ⟨hb, 0, none⟩)] W fun e w' => ∃ a0 a1 x t ms, e = .returned (.agg #[a0, a1]) ∧ ElS w0 x a0 a1 ∧ ls.Perm ((x :: t) :: ms) ∧ (∀ k ∈ ls, ∀ y, k.head? = some y → cmpT x y ≤ 0) ∧ HeapS w0 K w' hb (restOf t ms) ∧ W.heap.size ≤ w'.heap.size := by
  have hta := assertS
  have HK := hide h
  have hws := h.below.size
  obtain ⟨K', hK', HIn⟩ : ∃ K', HeapS w0 K' (W.alloc (.cells #[(.int .i64 0), (.int .u64 0)] 34)) hb ls ∧ Hid (∀ k o, K' k o ↔ K k o ∨ k = W.heap.size ∧ o = .cells #[(.int .i64 0), (.int .u64 0)] 34) := ⟨_, h.more _, fun k o => Iff.rfl⟩
  have C1 := hide (heapPopS_any (W.alloc (.cells #[(.int .i64 0), (.int .u64 0)] 34)) hK' hsm hn h0)
  clear hK'
  have HSm := hide hsm
  clear h hsm
  go_enter Tryz.func195, Tryz.ntmps195
  go_wp2_with fail
  refine C1.out.mono ?_
  rintro e w1 ⟨a, m, c, x, t, ms, rfl, hA, hP, hM, hH⟩
  obtain ⟨b, o, k, a0, a1, he, hb0, p0, p1, hE⟩ := hA.head
  cases he
  obtain ⟨_, hk1, hT⟩ := hA.tail
  have hml : ms.length ≤ 1000000000 := by have := hP.length_eq; simp at this; omega
  have C2 : Hid (∀ A q, (t = [] ∨ A = ⟨b, o + 2, none⟩ ∧ q = c - 1) → Calls Tryz.prog 193 #[.pointer (some ⟨hb, 0, none⟩), .slice (some A) t.length q] w1 fun e w' => e = .returned (.tuple #[]) ∧ HeapS w0 K' w' hb (restOf t ms)) := fun A q hq => by
    refine addS_any w1 hH _ _ t ?_ (fun q hq y hy => by
      rcases List.mem_cons.1 hq with rfl | hq
      · exact HSm.out _ (hP.mem_iff.2 (List.mem_cons_self ..)) y (List.mem_cons_of_mem _ hy)
      · exact HSm.out q (hP.mem_iff.2 (List.mem_cons_of_mem _ hq)) y hy) hml
    rcases hq with rfl | ⟨rfl, rfl⟩
    · exact SamplesAt.none _ _ _ _
    · exact hT
  have hc1 : Hid (c = 1 → t = []) := fun e => List.length_eq_zero_iff.1 (by omega)
  have HE := hide hE
  have HP := hide hP
  have HM := hide hM
  clear hE hP hM hH hA hT C1
  go_wp2_with fail
  all_goals
    refine (C2.out _ _ (by first | exact .inr ⟨rfl, rfl⟩ | (left; apply hc1.out; first | assumption | rfl | omega))).mono ?_
    rintro e w2 ⟨rfl, hH⟩
    have hr := hH.kp ((HIn.out _ _).2 (.inr ⟨rfl, rfl⟩))
    have r0 : w2.cell? ⟨W.heap.size, 0, none⟩ = some (.int .i64 0) := by simp [World.cell?, hr]
    have r1 : w2.cell? ⟨W.heap.size, 1, none⟩ = some (.int .u64 0) := by simp [World.cell?, hr]
    have fr0 : w2.frozen? ⟨W.heap.size, 0, none⟩ = false := by simp [World.frozen?, hr]
    have fr1 : w2.frozen? ⟨W.heap.size, 1, none⟩ = false := by simp [World.frozen?, hr]
    have m0 := (hH.below.cell (p := ⟨b, o, none⟩) hb0).trans p0
    have m1 := (hH.below.cell (p := ⟨b, o + 1, none⟩) hb0).trans p1
    have hsz := lt_of_heapS hr
    have HF : Hid (∀ u v, HeapS w0 K ((w2.setCell ⟨W.heap.size, 0, none⟩ u).setCell ⟨W.heap.size, 1, none⟩ v) hb (restOf t ms)) := fun u v => by
      refine hH.move (by simp) (fun k hk hn => ?_) (fun k o hk => ?_) ((hH.below.setCell hws _).setCell hws _)
      · have hne : k ≠ W.heap.size := fun e => hn _ ((HIn.out _ _).2 (.inr ⟨e, rfl⟩))
        exact (Below.heap_setCell _ _ _ k hne).trans (Below.heap_setCell _ _ _ k hne)
      · have hne : k ≠ W.heap.size := fun e => by
          have := lt_of_heapS (HK.out.kp hk); omega
        exact ⟨(Below.heap_setCell _ _ _ k hne).trans ((Below.heap_setCell _ _ _ k hne).trans (hH.kp ((HIn.out _ _).2 (.inl hk)))), .inl ⟨o, (HIn.out _ _).2 (.inl hk)⟩⟩
    clear hH hr p0 p1 hc1 C2
    obtain ⟨rfl, rfl⟩ := id HE.out
    go_wp2
    (try simp only [Exit.inBlock, Exit.then])
    refine bodyPost_ret (v := .agg #[(.int .i64 x.1), (.int .u64 x.2)]) (by rw [results_cell1S rfl]; go_simp) rfl ?_
    exact ⟨_, _, x, t, ms, rfl, HE.out, HP.out, HM.out, HF.out _ _, by simp; omega⟩
end Go.Proofs.YtamcclcbmenjdaaGreatDoor

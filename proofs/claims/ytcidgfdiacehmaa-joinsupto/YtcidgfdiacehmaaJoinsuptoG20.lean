/- 'choirlaw.Joins', for any two lists of series of bulk at most 1048576: Join answers the document's join or error, either way round; what is handed in stays, what comes out is its owner's. The second form's statement: its only condition is the row's own bound on the arguments' bulk. -/
import Derived.Test.YtcidgfdiacehmaaJoinsuptoG19
import Derived.Test.YtcidgfdiacehmaaJoinsuptoG2
/- container/heap over join's rests (of samples): down. -/
namespace Go.Proofs.Ytcidgfdiacehmaa
open Go.RowKit Go.Lib

set_option maxRecDepth 100000 in
set_option maxHeartbeats 2000000 in
theorem downS_any {w0 : World} {K : Nat → Obj → Prop} {hb n : Nat} {lv : Value} {vs : List Value} {ls : List (List (Int × Nat))} (W : World) (h : HsS w0 K W hb (n + 1) lv vs ls) (hsm : ∀ l ∈ ls, ∀ x ∈ l, SmS x) (hn : n ≤ 1000000000000) (hu : Hp.DownInv leS (hdS ls) n 0) :
    Calls Try.prog 70 #[.iface 96 (.pointer (some ⟨hb, 0, none⟩)), .int .i64 0, .int .i64 n] W fun e w' => (∃ r, e = .returned (.bool r)) ∧ ∃ vs' ls', HsS w0 K w' hb (n + 1) lv vs' ls' ∧ ls'.Perm ls ∧ Hp.IsHeap leS (hdS ls') n ∧ vs'[n]? = vs[n]? ∧ ls'[n]? = ls[n]? := by
  have m1 := methS_less
  have m2 := methS_swap
  have HSm := hide hsm
  have H0 := hide h
  have HU0 := hide hu
  clear h hsm hu
  go_enter Try.func70, Try.ntmps70
  go_wp2
  go_loopw [7, 8, 9, 10] (fun iv _ _ _ wr => ∃ (i : Nat) (vs' : List Value) (ls' : List (List (Int × Nat))), i ≤ n ∧ iv = .int .i64 i ∧ Hid (HsS w0 K wr hb (n + 1) lv vs' ls') ∧ Hid (ls'.Perm ls) ∧ Hid (Hp.DownInv leS (hdS ls') n i) ∧ Hid (vs'[n]? = vs[n]? ∧ ls'[n]? = ls[n]?)) (fun iv _ _ _ _ => n - (intOf iv).toNat)
  case atStart => exact ⟨0, vs, ls, Nat.zero_le _, rfl, H0.out, List.Perm.refl _, HU0.out, rfl, rfl⟩
  case round =>
    clear H0 HU0
    obtain ⟨i, vs', ls', hi, rfl, H, HP, HU, HL⟩ := hrel
    have CL : Hid (∀ (J I : Int) (p q : Nat) (x y : (Int × Nat)) (r s : List (Int × Nat)) (W2 : World), Below wr.heap.size wr W2 → J = (p : Int) → I = (q : Int) → ls'[p]? = some (x :: r) → ls'[q]? = some (y :: s) → Calls Try.prog 94 #[.pointer (some ⟨hb, 0, none⟩), .int .i64 J, .int .i64 I] W2 fun e w' => e = .returned (.bool (decide (cmpT x y < 0))) ∧ Below W2.heap.size W2 w') := fun J I p q x y r s W2 hW hJ hI hp hq => by
      subst hJ hI
      exact lessS_any W2 (H.out.rst.kept hW) H.out.lists (fun l hl x hx => HSm.out l (HP.out.mem_iff.1 hl) x hx) p q hp hq rfl rfl
    have CS : Hid (∀ (W2 : World) (I J : Int) (p q : Nat) (v u : Value), Below wr.heap.size wr W2 → I = (p : Int) → J = (q : Int) → vs'[p]? = some v → vs'[q]? = some u → (∃ a n c, v = .slice a n c) → (∃ a n c, u = .slice a n c) → Calls Try.prog 97 #[.pointer (some ⟨hb, 0, none⟩), .int .i64 I, .int .i64 J] W2 fun e w' => e = .returned (.tuple #[]) ∧ RstS w0 K w' hb lv ((vs'.set p u).set q v)) := fun W2 I J p q v u hW hI hJ hp hq hv hu => by
      subst hI hJ
      exact swapS_any W2 (H.out.rst.kept hW) p q hp hq hv hu
    by_cases hA : n ≤ 2 * i + 1
    · have HI := hide (Hp.down_done HU.out fun k hk h => by omega)
      have a1 : (n : Int) ≤ 2 * (i : Int) + 1 := by omega
      clear HU CL CS
      go_wp2
      go_ret
      exact ⟨⟨_, rfl⟩, vs', ls', H.out, HP.out, HI.out, HL.out.1, HL.out.2⟩
    · have a1 : ¬ (n : Int) ≤ 2 * (i : Int) + 1 := by omega
      have a2 : decide ((n : Int) ≤ 2 * (i : Int) + 1) = false := decide_eq_false a1
      obtain ⟨x, rx, v, hlx, hvx, hsx, hdx⟩ := H.out.cons (i := i) (by omega)
      obtain ⟨y, ry, u, hly, hvy, hsy, hdy⟩ := H.out.cons (i := 2 * i + 1) (by omega)
      by_cases hB : n ≤ 2 * i + 2
      · have hmin : ∀ d, d < n → (d = 2 * i + 1 ∨ d = 2 * i + 2) → leS (hdS ls' (2 * i + 1)) (hdS ls' d) := fun d hd h => by
          obtain rfl : d = 2 * i + 1 := by omega
          exact (leS_tot _ _).elim id id
        have b1 : ¬ 2 * (i : Int) + 1 + 1 < (n : Int) := by omega
        have b2 : decide (2 * (i : Int) + 1 + 1 < (n : Int)) = false := decide_eq_false b1
        have neg := cmpT_ok.neg y x
        by_cases hc : cmpT y x < 0
        · have hnl : ¬ leS (hdS ls' i) (hdS ls' (2 * i + 1)) := by
            rw [hdx, hdy]; unfold leS; omega
          have hun := Hp.down_step leS_tot HU.out (c := 2 * i + 1) (by omega) (by omega) hmin hnl
          rw [← hdS_swap hlx hly] at hun
          have HUn := hide hun
          have HPn := hide ((Hp.set_swap_perm ls' i (2 * i + 1) _ _ hlx hly).trans HP.out)
          have HLn := hide (H.out.lists.swap hvx hvy hlx hly)
          have HLen : Hid (((ls'.set i (y :: ry)).set (2 * i + 1) (x :: rx)).length = n + 1) := by show _ = _; simp [H.out.len]
          have HLl : Hid (((vs'.set i u).set (2 * i + 1) v)[n]? = vs[n]? ∧ ((ls'.set i (y :: ry)).set (2 * i + 1) (x :: rx))[n]? = ls[n]?) := by
            rw [List.getElem?_set_ne (by omega), List.getElem?_set_ne (by omega), List.getElem?_set_ne (by omega), List.getElem?_set_ne (by omega)]
            exact HL.out
          have hdt : decide (cmpT y x < 0) = true := decide_eq_true hc
          have CL2 := hide (fun J I hJ hI => CL.out J I (2 * i + 1) i y x ry rx wr (Below.refl _ _) hJ hI hly hlx)
          have CS2 := hide (fun W2 I J hW hI hJ => CS.out W2 I J i (2 * i + 1) v u hW hI hJ hvx hvy hsx hsy)
          clear hun hnl HU HP hmin HL H CL CS neg hlx hly hvx hvy hsx hsy hdx hdy
          go_wp2_with fail
          refine (CL2.out _ _ (by omega) (by omega)).mono ?_
          rintro e w5 ⟨rfl, hb5⟩
          rw [hdt]
          have HB5 := hide ((Below.refl _ _).trans (hb5.mono (Nat.le_refl _)))
          clear hb5 hc hdt CL2
          go_wp2_with fail
          refine (CS2.out _ _ _ HB5.out (by omega) (by omega)).mono ?_
          rintro e w6 ⟨rfl, hr6⟩
          have HR6 := hide hr6
          clear hr6 CS2 HB5
          go_wp2
          go_roundw
          case rel => exact ⟨2 * i + 1, _, _, by omega, by go_num, ⟨HR6.out, HLn.out, HLen.out⟩, HPn.out, HUn.out, HLl.out⟩
          case measure => simp [intOf]; omega
        · have hle : leS (hdS ls' i) (hdS ls' (2 * i + 1)) := by
            rw [hdx, hdy]; unfold leS; omega
          have HI := hide (Hp.down_done HU.out fun k hk hh => leS_tr hle (hmin k hk hh))
          have hdf : decide (cmpT y x < 0) = false := decide_eq_false hc
          have CL2 := hide (fun J I hJ hI => CL.out J I (2 * i + 1) i y x ry rx wr (Below.refl _ _) hJ hI hly hlx)
          clear HU hmin CL CS neg hlx hly hvx hvy hsx hsy hdx hdy hle
          go_wp2_with fail
          refine (CL2.out _ _ (by omega) (by omega)).mono ?_
          rintro e w5 ⟨rfl, hb5⟩
          rw [hdf]
          have HH := hide (H.out.kept ((Below.refl _ _).trans (hb5.mono (Nat.le_refl _))))
          clear hb5 hc hdf CL2
          go_wp2
          go_ret
          exact ⟨⟨_, rfl⟩, vs', ls', HH.out, HP.out, HI.out, HL.out.1, HL.out.2⟩
      · have b1 : 2 * (i : Int) + 1 + 1 < (n : Int) := by omega
        obtain ⟨z, rz, t, hlz, hvz, hsz, hdz⟩ := H.out.cons (i := 2 * i + 2) (by omega)
        have negz := cmpT_ok.neg z y
        have CL1 := hide (fun J I hJ hI => CL.out J I (2 * i + 2) (2 * i + 1) z y rz ry wr (Below.refl _ _) hJ hI hlz hly)
        by_cases hcz : cmpT z y < 0
        · have hmin : ∀ d, d < n → (d = 2 * i + 1 ∨ d = 2 * i + 2) → leS (hdS ls' (2 * i + 2)) (hdS ls' d) := fun d hd h => by
            rcases h with rfl | rfl
            · rw [hdz, hdy]; unfold leS; omega
            · exact (leS_tot _ _).elim id id
          have hdt0 : decide (cmpT z y < 0) = true := decide_eq_true hcz
          go_wp2_with fail
          refine (CL1.out _ _ (by omega) (by omega)).mono ?_
          rintro e w4 ⟨rfl, hb4⟩
          rw [hdt0]
          have HB4 := hide hb4
          clear hb4 hdt0 CL1 negz
          have neg := cmpT_ok.neg z x
          by_cases hc : cmpT z x < 0
          · have hnl : ¬ leS (hdS ls' i) (hdS ls' (2 * i + 2)) := by
              rw [hdx, hdz]; unfold leS; omega
            have hun := Hp.down_step leS_tot HU.out (c := 2 * i + 2) (by omega) (by omega) hmin hnl
            rw [← hdS_swap hlx hlz] at hun
            have HUn := hide hun
            have HPn := hide ((Hp.set_swap_perm ls' i (2 * i + 2) _ _ hlx hlz).trans HP.out)
            have HLn := hide (H.out.lists.swap hvx hvz hlx hlz)
            have HLen : Hid (((ls'.set i (z :: rz)).set (2 * i + 2) (x :: rx)).length = n + 1) := by show _ = _; simp [H.out.len]
            have HLl : Hid (((vs'.set i t).set (2 * i + 2) v)[n]? = vs[n]? ∧ ((ls'.set i (z :: rz)).set (2 * i + 2) (x :: rx))[n]? = ls[n]?) := by
              rw [List.getElem?_set_ne (by omega), List.getElem?_set_ne (by omega), List.getElem?_set_ne (by omega), List.getElem?_set_ne (by omega)]
              exact HL.out
            have hdt : decide (cmpT z x < 0) = true := decide_eq_true hc
            have CL2 := hide (fun J I hJ hI => CL.out J I (2 * i + 2) i z x rz rx w4 HB4.out hJ hI hlz hlx)
            have CS2 := hide (fun W2 I J hW hI hJ => CS.out W2 I J i (2 * i + 2) v t hW hI hJ hvx hvz hsx hsz)
            clear hun hnl HU HP hmin HL H CL CS neg hlx hly hvx hvy hsx hsy hdx hdy hlz hvz hsz hdz hcz
            go_wp2_with fail
            refine (CL2.out _ _ (by omega) (by omega)).mono ?_
            rintro e w5 ⟨rfl, hb5⟩
            rw [hdt]
            have HB5 := hide (HB4.out.trans (hb5.mono (by have := HB4.out.size; omega)))
            clear hb5 hc hdt CL2
            go_wp2_with fail
            refine (CS2.out _ _ _ HB5.out (by omega) (by omega)).mono ?_
            rintro e w6 ⟨rfl, hr6⟩
            have HR6 := hide hr6
            clear hr6 CS2 HB5
            go_wp2
            go_roundw
            case rel => exact ⟨2 * i + 2, _, _, by omega, by go_num, ⟨HR6.out, HLn.out, HLen.out⟩, HPn.out, HUn.out, HLl.out⟩
            case measure => simp [intOf]; omega
          · have hle : leS (hdS ls' i) (hdS ls' (2 * i + 2)) := by
              rw [hdx, hdz]; unfold leS; omega
            have HI := hide (Hp.down_done HU.out fun k hk hh => leS_tr hle (hmin k hk hh))
            have hdf : decide (cmpT z x < 0) = false := decide_eq_false hc
            have CL2 := hide (fun J I hJ hI => CL.out J I (2 * i + 2) i z x rz rx w4 HB4.out hJ hI hlz hlx)
            clear HU hmin CL CS neg hlx hly hvx hvy hsx hsy hdx hdy hle hlz hvz hsz hdz hcz
            go_wp2_with fail
            refine (CL2.out _ _ (by omega) (by omega)).mono ?_
            rintro e w5 ⟨rfl, hb5⟩
            rw [hdf]
            have HH := hide (H.out.kept (HB4.out.trans (hb5.mono (by have := HB4.out.size; omega))))
            clear hb5 hc hdf CL2
            go_wp2
            go_ret
            exact ⟨⟨_, rfl⟩, vs', ls', HH.out, HP.out, HI.out, HL.out.1, HL.out.2⟩
        · have hmin : ∀ d, d < n → (d = 2 * i + 1 ∨ d = 2 * i + 2) → leS (hdS ls' (2 * i + 1)) (hdS ls' d) := fun d hd h => by
            rcases h with rfl | rfl
            · exact (leS_tot _ _).elim id id
            · rw [hdz, hdy]; unfold leS; omega
          have hdf0 : decide (cmpT z y < 0) = false := decide_eq_false hcz
          go_wp2_with fail
          refine (CL1.out _ _ (by omega) (by omega)).mono ?_
          rintro e w4 ⟨rfl, hb4⟩
          rw [hdf0]
          have HB4 := hide hb4
          clear hb4 hdf0 CL1 negz
          have neg := cmpT_ok.neg y x
          by_cases hc : cmpT y x < 0
          · have hnl : ¬ leS (hdS ls' i) (hdS ls' (2 * i + 1)) := by
              rw [hdx, hdy]; unfold leS; omega
            have hun := Hp.down_step leS_tot HU.out (c := 2 * i + 1) (by omega) (by omega) hmin hnl
            rw [← hdS_swap hlx hly] at hun
            have HUn := hide hun
            have HPn := hide ((Hp.set_swap_perm ls' i (2 * i + 1) _ _ hlx hly).trans HP.out)
            have HLn := hide (H.out.lists.swap hvx hvy hlx hly)
            have HLen : Hid (((ls'.set i (y :: ry)).set (2 * i + 1) (x :: rx)).length = n + 1) := by show _ = _; simp [H.out.len]
            have HLl : Hid (((vs'.set i u).set (2 * i + 1) v)[n]? = vs[n]? ∧ ((ls'.set i (y :: ry)).set (2 * i + 1) (x :: rx))[n]? = ls[n]?) := by
              rw [List.getElem?_set_ne (by omega), List.getElem?_set_ne (by omega), List.getElem?_set_ne (by omega), List.getElem?_set_ne (by omega)]
              exact HL.out
            have hdt : decide (cmpT y x < 0) = true := decide_eq_true hc
            have CL2 := hide (fun J I hJ hI => CL.out J I (2 * i + 1) i y x ry rx w4 HB4.out hJ hI hly hlx)
            have CS2 := hide (fun W2 I J hW hI hJ => CS.out W2 I J i (2 * i + 1) v u hW hI hJ hvx hvy hsx hsy)
            clear hun hnl HU HP hmin HL H CL CS neg hlx hly hvx hvy hsx hsy hdx hdy hlz hvz hsz hdz hcz
            go_wp2_with fail
            refine (CL2.out _ _ (by omega) (by omega)).mono ?_
            rintro e w5 ⟨rfl, hb5⟩
            rw [hdt]
            have HB5 := hide (HB4.out.trans (hb5.mono (by have := HB4.out.size; omega)))
            clear hb5 hc hdt CL2
            go_wp2_with fail
            refine (CS2.out _ _ _ HB5.out (by omega) (by omega)).mono ?_
            rintro e w6 ⟨rfl, hr6⟩
            have HR6 := hide hr6
            clear hr6 CS2 HB5
            go_wp2
            go_roundw
            case rel => exact ⟨2 * i + 1, _, _, by omega, by go_num, ⟨HR6.out, HLn.out, HLen.out⟩, HPn.out, HUn.out, HLl.out⟩
            case measure => simp [intOf]; omega
          · have hle : leS (hdS ls' i) (hdS ls' (2 * i + 1)) := by
              rw [hdx, hdy]; unfold leS; omega
            have HI := hide (Hp.down_done HU.out fun k hk hh => leS_tr hle (hmin k hk hh))
            have hdf : decide (cmpT y x < 0) = false := decide_eq_false hc
            have CL2 := hide (fun J I hJ hI => CL.out J I (2 * i + 1) i y x ry rx w4 HB4.out hJ hI hly hlx)
            clear HU hmin CL CS neg hlx hly hvx hvy hsx hsy hdx hdy hle hlz hvz hsz hdz hcz
            go_wp2_with fail
            refine (CL2.out _ _ (by omega) (by omega)).mono ?_
            rintro e w5 ⟨rfl, hb5⟩
            rw [hdf]
            have HH := hide (H.out.kept (HB4.out.trans (hb5.mono (by have := HB4.out.size; omega))))
            clear hb5 hc hdf CL2
            go_wp2
            go_ret
            exact ⟨⟨_, rfl⟩, vs', ls', HH.out, HP.out, HI.out, HL.out.1, HL.out.2⟩
end Go.Proofs.Ytcidgfdiacehmaa

/- container/heap over join's rests (of samples): Push, Pop; add, takeLeast. -/
namespace Go.Proofs.Ytcidgfdiacehmaa
open Go.RowKit Go.Lib

/-- A heap, whole: whatever its slices are. -/
def HeapS (w0 : World) (K : Nat → Obj → Prop) (W : World) (hb : Nat) (ls : List (List (Int × Nat))) : Prop := ∃ lv vs ls', HsS w0 K W hb ls'.length lv vs ls' ∧ ls'.Perm ls ∧ Hp.IsHeap leS (hdS ls') ls'.length
theorem HeapS.perm {w0 : World} {K : Nat → Obj → Prop} {W : World} {hb : Nat} {ls ms : List (List (Int × Nat))} (h : HeapS w0 K W hb ls) (hp : ls.Perm ms) : HeapS w0 K W hb ms := by
  obtain ⟨lv, vs, ls', h1, h2, h3⟩ := h
  exact ⟨lv, vs, ls', h1, h2.trans hp, h3⟩
theorem HeapS.move {w0 : World} {K K' : Nat → Obj → Prop} {W W' : World} {hb : Nat} {ls : List (List (Int × Nat))} (h : HeapS w0 K W hb ls) (hs : W.heap.size ≤ W'.heap.size) (hk : ∀ k, k < W.heap.size → (∀ o, ¬ K k o) → W'.heap[k]? = W.heap[k]?) (hK : ∀ k o, K' k o → W'.heap[k]? = some o ∧ ((∃ o', K k o') ∨ W.heap.size ≤ k)) (hb0 : Below w0.heap.size w0 W') : HeapS w0 K' W' hb ls := by
  obtain ⟨lv, vs, ls', h1, h2, h3⟩ := h
  exact ⟨lv, vs, ls', ⟨h1.rst.move hs hk hK hb0, h1.lists, h1.len⟩, h2, h3⟩
theorem HeapS.kp {w0 : World} {K : Nat → Obj → Prop} {W : World} {hb : Nat} {ls : List (List (Int × Nat))} (h : HeapS w0 K W hb ls) {k : Nat} {o : Obj} (hk : K k o) : W.heap[k]? = some o := by
  obtain ⟨lv, vs, ls', h1, _⟩ := h; exact (h1.rst.kp k o hk).1
theorem HeapS.below {w0 : World} {K : Nat → Obj → Prop} {W : World} {hb : Nat} {ls : List (List (Int × Nat))} (h : HeapS w0 K W hb ls) : Below w0.heap.size w0 W := by
  obtain ⟨lv, vs, ls', h1, _⟩ := h; exact h1.rst.below
theorem HeapS.kept {w0 : World} {K : Nat → Obj → Prop} {W W' : World} {hb : Nat} {ls : List (List (Int × Nat))} (h : HeapS w0 K W hb ls) (hb' : Below W.heap.size W W') : HeapS w0 K W' hb ls := by
  obtain ⟨lv, vs, ls', h1, h2, h3⟩ := h
  exact ⟨lv, vs, ls', h1.kept hb', h2, h3⟩
theorem hdS_app {ls : List (List (Int × Nat))} {l : List (Int × Nat)} {k : Nat} (h : k < ls.length) : hdS (ls ++ [l]) k = hdS ls k := by
  unfold hdS; rw [List.getD_eq_getElem?_getD, List.getD_eq_getElem?_getD, List.getElem?_append_left h]
theorem ListsS.snoc {w0 : World} {vs : List Value} {ls : List (List (Int × Nat))} {v : Value} {l : List (Int × Nat)} (h : ListsS w0 vs ls) (hv : SamplesAt w0 w0.heap.size v l) (hl : l ≠ []) : ListsS w0 (vs ++ [v]) (ls ++ [l]) := by
  refine ⟨by simp [h.len], fun i u m hu hm => ?_⟩
  rcases getElem?_snoc hu with ⟨hi, hu⟩ | ⟨hi, rfl⟩
  · rw [List.getElem?_append_left (by rw [← h.len]; exact hi)] at hm
    exact h.each i u m hu hm
  · rw [hi, h.len, List.getElem?_append_right (Nat.le_refl _), Nat.sub_self] at hm
    cases hm
    exact ⟨hv, hl⟩

set_option maxRecDepth 100000 in
set_option maxHeartbeats 1000000 in
theorem heapPushS_any {w0 : World} {K : Nat → Obj → Prop} {hb : Nat} {ls : List (List (Int × Nat))} (W : World) (h : HeapS w0 K W hb ls) (a : Option Addr) (m c : Nat) (l : List (Int × Nat)) (hv : SamplesAt w0 w0.heap.size (.slice a m c) l) (hl : l ≠ []) (hsm : ∀ k ∈ l :: ls, ∀ x ∈ k, SmS x) (hn : ls.length ≤ 1000000000) :
    Calls Try.prog 54 #[.iface 96 (.pointer (some ⟨hb, 0, none⟩)), .iface 34 (.slice a m c)] W fun e w' => e = .returned (.tuple #[]) ∧ HeapS w0 K w' hb (l :: ls) := by
  obtain ⟨lv, vs, ls', h1, h2, h3⟩ := h
  have hlen := h2.length_eq
  have hvl := h1.lists.len
  have m1 := methS_push
  have m2 := methS_len
  have C1 := hide (pushS_any W h1.rst a m c (by omega))
  have HL := hide (h1.lists.snoc hv hl)
  have HU := hide (Hp.up_start (g := hdS (ls' ++ [l])) h3 fun k hk => hdS_app hk)
  have HP := hide h2
  have HSm := hide hsm
  clear h1 h3 h2 hsm hv
  go_enter Try.func54, Try.ntmps54
  go_wp2_with fail
  refine C1.out.mono ?_
  rintro e w1 ⟨rfl, lv1, hr1⟩
  have hlv : (vs ++ [Value.slice a m c]).length = ls'.length + 1 := by simp [hvl]
  have C2 := hide (lenS_any w1 hr1)
  rw [hlv] at C2
  have H1 : Hid (HsS w0 K w1 hb (ls'.length + 1) lv1 (vs ++ [.slice a m c]) (ls' ++ [l])) := ⟨hr1, HL.out, by simp⟩
  have C3 : Hid (∀ J : Int, J = (ls'.length : Int) → Calls Try.prog 64 #[.iface 96 (.pointer (some ⟨hb, 0, none⟩)), .int .i64 J] w1 fun e w' => e = .returned (.tuple #[]) ∧ ∃ vs2 ls2, HsS w0 K w' hb (ls'.length + 1) lv1 vs2 ls2 ∧ ls2.Perm (ls' ++ [l]) ∧ Hp.IsHeap leS (hdS ls2) (ls'.length + 1)) := fun J hJ => by
    subst hJ
    exact upS_any w1 H1.out (fun k hk x hx => HSm.out k (by
      rcases List.mem_append.1 hk with hk | hk
      · exact List.mem_cons_of_mem _ (HP.out.mem_iff.1 hk)
      · simp at hk; subst hk; exact List.mem_cons_self ..) x hx) ls'.length (by omega) (by omega) HU.out
  clear hr1 C1 hlv H1
  go_wp2_with fail
  refine C2.out.mono ?_
  rintro e w2 ⟨rfl, rfl⟩
  clear C2
  go_wp2_with fail
  refine (C3.out _ (by omega)).mono ?_
  rintro e w3 ⟨rfl, vs2, ls2, h4, h5, h6⟩
  have HF : Hid (HeapS w0 K w3 hb (l :: ls)) := by
    have hl2 := h4.len
    refine ⟨lv1, vs2, ls2, by rw [hl2]; exact h4, h5.trans ?_, by rw [hl2]; exact h6⟩
    exact (List.perm_append_comm (l₁ := ls') (l₂ := [l])).trans (List.Perm.cons _ HP.out)
  clear h4 h5 h6 C3
  go_wp2
  go_end0
  exact ⟨rfl, HF.out⟩

theorem ListsS.cut {w0 : World} {vs : List Value} {ls : List (List (Int × Nat))} (h : ListsS w0 vs ls) (n : Nat) : ListsS w0 (vs.take n) (ls.take n) := by
  refine ⟨by simp [h.len], fun i u m hu hm => ?_⟩
  rw [List.getElem?_take] at hu hm
  by_cases hi : i < n
  · rw [if_pos hi] at hu hm; exact h.each i u m hu hm
  · rw [if_neg hi] at hu; cases hu

set_option maxRecDepth 100000 in
set_option maxHeartbeats 1000000 in
theorem heapPopS_any {w0 : World} {K : Nat → Obj → Prop} {hb : Nat} {ls : List (List (Int × Nat))} (W : World) (h : HeapS w0 K W hb ls) (hsm : ∀ k ∈ ls, ∀ x ∈ k, SmS x) (hn : ls.length ≤ 1000000000) (h0 : ls ≠ []) :
    Calls Try.prog 62 #[.iface 96 (.pointer (some ⟨hb, 0, none⟩))] W fun e w' => ∃ a m c x t ms, e = .returned (.iface 34 (.slice a m c)) ∧ SamplesAt w0 w0.heap.size (.slice a m c) (x :: t) ∧ ls.Perm ((x :: t) :: ms) ∧ (∀ k ∈ ls, ∀ y, k.head? = some y → cmpT x y ≤ 0) ∧ HeapS w0 K w' hb ms := by
  obtain ⟨lv, vs, ls', h1, h2, h3⟩ := h
  have hlen := h2.length_eq
  have hvl := h1.lists.len
  obtain ⟨n, hn1⟩ : ∃ n, ls'.length = n + 1 := ⟨ls'.length - 1, by have : 0 < ls.length := List.length_pos_iff.2 h0; omega⟩
  rw [hn1] at h1 h3
  obtain ⟨x, t, v, hlx, hvx, ⟨a, m, c, rfl⟩, hdx⟩ := h1.cons (i := 0) (by omega)
  obtain ⟨y, s, u, hly, hvy, hsy, hdy⟩ := h1.cons (i := n) (by omega)
  have hmin : ∀ k ∈ ls, ∀ y, k.head? = some y → cmpT x y ≤ 0 := fun k hk z hz => by
    obtain ⟨i, hi, e⟩ := List.mem_iff_getElem.1 (h2.mem_iff.2 hk)
    have := Hp.heap_min leS_tot leS_tr h3 i (by omega)
    cases k with
    | nil => cases hz
    | cons p q =>
      cases hz
      rw [hdx, hdS_of (ls := ls') (k := i) (by rw [List.getElem?_eq_getElem hi, e])] at this
      exact this
  have hA := (h1.lists.each 0 _ _ hvx hlx).1
  have m1 := methS_swap
  have m2 := methS_len
  have m3 := methS_pop
  have C1 := hide (lenS_any W h1.rst)
  rw [show vs.length = n + 1 by omega] at C1
  have C2 : Hid (∀ J : Int, J = (n : Int) → Calls Try.prog 97 #[.pointer (some ⟨hb, 0, none⟩), .int .i64 0, .int .i64 J] W fun e w' => e = .returned (.tuple #[]) ∧ RstS w0 K w' hb lv ((vs.set 0 u).set n (.slice a m c))) := fun J hJ => by
    subst hJ
    exact swapS_any W h1.rst 0 n hvx hvy ⟨_, _, _, rfl⟩ hsy
  have hl1 := h1.lists.swap hvx hvy hlx hly
  have hd1 : Hp.DownInv leS (hdS ((ls'.set 0 (y :: s)).set n (x :: t))) n 0 := by
    refine Hp.down_start h3 fun k hk0 hk => ?_
    rw [hdS_swap hlx hly]
    unfold Hp.swp
    rw [if_neg (by omega), if_neg (by omega)]
  have hlast : ((ls'.set 0 (y :: s)).set n (x :: t))[n]? = some (x :: t) := by rw [List.getElem?_set_self (by simp; omega)]
  have hvlast : ((vs.set 0 u).set n (.slice a m c))[n]? = some (.slice a m c) := by rw [List.getElem?_set_self (by simp; omega)]
  have hperm := (Hp.set_swap_perm ls' 0 n _ _ hlx hly).trans h2
  have HA := hide hA
  have HMin := hide hmin
  have HL1 := hide hl1
  have HD1 := hide hd1
  have HLast := hide hlast
  have HVLast := hide hvlast
  have HPerm := hide hperm
  have HSm := hide hsm
  have HLen1 : Hid (((ls'.set 0 (y :: s)).set n (x :: t)).length = n + 1) := by show _ = _; simp [hn1]
  have HVLen1 : Hid (((vs.set 0 u).set n (.slice a m c)).length = n + 1) := by show _ = _; simp; omega
  clear h1 h2 h3 hl1 hd1 hlast hvlast hperm hmin hA hsm hlx hly hvx hvy hsy hdx hdy
  generalize (ls'.set 0 (y :: s)).set n (x :: t) = ls1 at *
  generalize (vs.set 0 u).set n (.slice a m c) = vs1 at *
  go_enter Try.func62, Try.ntmps62
  go_wp2_with fail
  refine C1.out.mono ?_
  rintro e w1 ⟨rfl, rfl⟩
  clear C1
  go_wp2_with fail
  refine (C2.out _ (by omega)).mono ?_
  rintro e w2 ⟨rfl, hr2⟩
  have C3 : Hid (∀ J : Int, J = (n : Int) → Calls Try.prog 70 #[.iface 96 (.pointer (some ⟨hb, 0, none⟩)), .int .i64 0, .int .i64 J] w2 fun e w' => (∃ r, e = .returned (.bool r)) ∧ ∃ vs' ls', HsS w0 K w' hb (n + 1) lv vs' ls' ∧ ls'.Perm ls1 ∧ Hp.IsHeap leS (hdS ls') n ∧ vs'[n]? = vs1[n]? ∧ ls'[n]? = ls1[n]?) := fun J hJ => by
    subst hJ
    exact downS_any w2 ⟨hr2, HL1.out, HLen1.out⟩ (fun k hk x hx => HSm.out k (HPerm.out.mem_iff.1 hk) x hx) (by omega) HD1.out
  clear hr2 C2
  go_wp2_with fail
  refine (C3.out _ (by omega)).mono ?_
  rintro e w3 ⟨⟨rb, rfl⟩, vs3, ls3, h4, h5, h6, h7, h8⟩
  have hv3 := take_last (h7.trans HVLast.out) (by rw [h4.lists.len, h4.len])
  have hl3 := take_last (h8.trans HLast.out) h4.len
  have hr3 := h4.rst
  rw [hv3] at hr3
  have hl3n : (ls3.take n).length = n := by rw [List.length_take, h4.len]; omega
  have hv3n : (vs3.take n).length = n := by rw [List.length_take, h4.lists.len, h4.len]; omega
  have C4 := hide (popS_any w3 hr3 (by omega))
  have HL3 := hide (h4.lists.cut n)
  have HP3 : Hid (ls.Perm ((x :: t) :: ls3.take n)) := by
    have := (h5.trans HPerm.out).symm
    rw [hl3] at this
    exact this.trans List.perm_append_comm
  have HH3 : Hid (Hp.IsHeap leS (hdS (ls3.take n)) n) := fun k hk0 hk => by
    have e : ∀ q, q < n → hdS (ls3.take n) q = hdS ls3 q := fun q hq => by
      unfold hdS; rw [List.getD_eq_getElem?_getD, List.getD_eq_getElem?_getD, List.getElem?_take, if_pos hq]
    rw [e _ (by omega), e _ hk]; exact h6 k hk0 hk
  clear h4 h5 h6 h7 h8 hv3 hl3 hr3 C3
  go_wp2_with fail
  refine C4.out.mono ?_
  rintro e w4 ⟨rfl, lv4, hr4⟩
  have HF : Hid (HeapS w0 K w4 hb (ls3.take n)) := ⟨lv4, vs3.take n, ls3.take n, by rw [hl3n]; exact ⟨hr4, HL3.out, hl3n⟩, List.Perm.refl _, by rw [hl3n]; exact HH3.out⟩
  clear hr4 C4
  go_wp2
  go_ret
  exact ⟨a, m, c, x, t, ls3.take n, rfl, HA.out, HP3.out, HMin.out, HF.out⟩
end Go.Proofs.Ytcidgfdiacehmaa

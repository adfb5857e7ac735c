/- 'choirkeep.Level', for any list of steps (100 of them are done): when all are up, nothing is under way, and each has told each other one, all have the same, and compacted logs are the same bytes. The first form's statement and its card: no condition beside the row's own. -/
import Derived.Test.YtamcclcbmenjdaaGreatDoorLevelG40
/- choirkeep's act, on. -/
namespace Go.Proofs.YtamcclcbmenjdaaGreatDoor
open Go.RowKit Go.Lib

theorem RawsAt.below {w w' : World} {B : Nat} {v : Value} {l : List (Int × Int × Nat)} (h : RawsAt w B v l) (hb : Below B w w') : RawsAt w' B v l := by
  obtain ⟨a, cap, h1, h2, h3⟩ := h
  refine ⟨a, cap, h1, h2, ?_⟩
  rcases h3 with h3 | ⟨b, o, e, hB, hc⟩
  · exact .inl h3
  · exact .inr ⟨b, o, e, hB, fun i x hx => ⟨(hb.cell (p := ⟨b, _, none⟩) hB).trans (hc i x hx).1, (hb.cell (p := ⟨b, _, none⟩) hB).trans (hc i x hx).2.1, (hb.cell (p := ⟨b, _, none⟩) hB).trans (hc i x hx).2.2⟩⟩
set_option linter.unusedVariables false in
set_option maxRecDepth 100000 in
set_option maxHeartbeats 1000000 in
theorem act0 (W : World) (cb M rl rc : Nat) (ra : Option Addr) (kd rr a c : Int) (S : CS) (h : CluAt W cb S) (hk : CSOk M S) (hM : M ≤ 1000000000) (hT : Tabs W) (hcb : 2 < cb) (hr1 : Rng64 kd) (hr2 : Rng64 rr) (hr3 : Rng64 a) (hr4 : Rng64 c) (raws : List (Int × Int × Nat)) (hR : RawsAt W W.heap.size (.slice ra rl rc) raws) (hrl : raws.length ≤ 100000000000000) (hj : pk kd 12 = 0) :
    Calls Tryz.prog 18 #[.pointer (some ⟨cb, 0, none⟩), .agg #[.int .i64 kd, .int .i64 rr, .int .i64 a, .int .i64 c, .slice ra rl rc]] W fun e w' => ActEnd W w' cb S e := by
  have hlt := h.way.lt
  have hb0 : Below W.heap.size W (W.alloc (.cells #[.int .i64 kd, .int .i64 rr, .int .i64 a, .int .i64 c, .slice ra rl rc] 60)) := (Below.refl _ _).alloc (Nat.le_refl _) _
  have H0 := hide (h.below hb0)
  have HT0 := hide (hT.below hb0 hT.lt)
  have HK := hide hk
  have HZ : Hid (∀ m ∈ S.ms, m.by_.size ≤ 1000000) := fun m hm => by have := (hk.msg m hm).2.2; omega
  have HTn := hide (Turn.of_below (lo := 0) (hi := 136) hb0 hlt)
  have HR4 := hide hr4
  have C1 : Hid (Calls Tryz.prog 22 #[.int .i64 rr, .int .i64 3] (W.alloc (.cells #[.int .i64 kd, .int .i64 rr, .int .i64 a, .int .i64 c, .slice ra rl rc] 60)) fun e w' => e = .returned (.int .i64 (pk rr 3 : Nat)) ∧ w' = (W.alloc (.cells #[.int .i64 kd, .int .i64 rr, .int .i64 a, .int .i64 c, .slice ra rl rc] 60))) := pick_any rr 3 _ hr2.1 hr2.2 (by omega) (by omega)
  have C0 : Hid (Calls Tryz.prog 22 #[.int .i64 kd, .int .i64 12] (W.alloc (.cells #[.int .i64 kd, .int .i64 rr, .int .i64 a, .int .i64 c, .slice ra rl rc] 60)) fun e w' => e = .returned (.int .i64 0) ∧ w' = (W.alloc (.cells #[.int .i64 kd, .int .i64 rr, .int .i64 a, .int .i64 c, .slice ra rl rc] 60))) := by
    have h1 := pick_any kd 12 (W.alloc (.cells #[.int .i64 kd, .int .i64 rr, .int .i64 a, .int .i64 c, .slice ra rl rc] 60)) hr1.1 hr1.2 (by omega) (by omega)
    rw [hj] at h1
    exact h1
  have hk3 : pk rr 3 < 3 := pk_lt _ _ (by omega)
  generalize pk rr 3 = k at *
  obtain ⟨sv, lp, hrep⟩ := H0.out.rep k hk3
  have C3 := hide (kbatch_fresh W.heap.size _ raws (W.alloc (.cells #[.int .i64 kd, .int .i64 rr, .int .i64 a, .int .i64 c, .slice ra rl rc] 60)) (RawsAt.below hR hb0) (by simp) hrl)
  clear h hk hT hj hr1 hr2
  go_enter Tryz.func18, Tryz.ntmps18
  go_wp2_with fail
  refine C1.out.mono ?_
  rintro e w1 ⟨rfl, rfl⟩
  go_wp2_with fail
  refine C0.out.mono ?_
  rintro e w1 ⟨rfl, rfl⟩
  clear C1 C0
  go_wp2_with fail
  refine C3.out.mono ?_
  rintro e w2 ⟨v2, b, rfl, hF, hok, hlim, hrg, hkb, hb2⟩
  have H2 := hide (H0.out.below hb2)
  have HT2 := hide (HTn.out.trans (Turn.of_below hb2 H0.out.way.lt))
  have HTb := hide (HT0.out.below hb2 HT0.out.lt)
  obtain ⟨sv2, lp2, hrep2⟩ := H2.out.rep k hk3
  have hs2 := hb2.size
  have hs0 : (W.alloc (.cells #[.int .i64 kd, .int .i64 rr, .int .i64 a, .int .i64 c, .slice ra rl rc] 60)).heap.size = W.heap.size + 1 := by simp
  have hsafe : SafeB w2 cb v2 b := fun w' h1 h2 => hF.2 w' h1 fun q q1 q2 => h2 q q2 (by omega)
  obtain ⟨va, vc, rfl, -⟩ := id hsafe.here
  have C2 := hide (cWrite_any w2 cb k M hk3 _ _ _ _ b hrep2 (HK.out.rep k hk3) (by omega) hsafe (small_of_limits hlim) hrg HTb.out hcb)
  have HF := hide hF
  have HOk := hide hok
  have HLim := hide hlim
  have HRg := hide hrg
  have HKb := hide hkb
  clear hF hok hlim hrg hkb hb2 hsafe C3
  go_wp2_with fail
  refine C2.out.mono ?_
  rintro e w3 ⟨n, r', sv', lp', rfl, hw, h1, t1⟩
  have HC3 := hide (H2.out.rep1 hk3 h1 t1)
  have HT3 := hide (HT2.out.trans (t1.wider (lo' := 0) (hi' := 136) (Nat.zero_le _) (by omega)))
  have HF3 : Hid (FreshB w3 W.heap.size (.slice va b.length vc) b) := ⟨fun k e => (by have := HF.out.1 k e; omega), fun w' h1 h2 => HF.out.2 w' (Nat.le_trans t1.size h1) fun q q1 q2 => (h2 q (by omega) (Nat.lt_of_lt_of_le q2 t1.size)).trans (t1.block q q2 (by omega))⟩
  have HSt : Hid (StepOf S (S.put k r') (if n = 0 then b else [])) := by
    rcases hw with ⟨_, rfl, rfl⟩ | ⟨hu, hw⟩
    · rw [CS.put_self]; exact .stay
    · exact .write k n b r' hk3 hu hw HOk.out HLim.out HRg.out HKb.out
  clear h1 t1 hw C2
  by_cases hn0 : n = 0
  · subst hn0
    have HE : Hid (ActEnd W w3 cb S (.returned (.slice va b.length vc))) := ⟨_, b, _, rfl, HSt.out, HC3.out, HT3.out, HF3.out⟩
    go_wp2
    go_ret
    exact HE.out
  · have hni : ¬ ((n : Int) = 0) := by omega
    have HE : Hid (ActEnd W w3 cb S (.returned (.slice none 0 0))) := ActEnd.nil (by have h1 := HSt.out; rw [if_neg hn0] at h1; exact h1) HC3.out HT3.out
    go_wp2
    go_ret
    exact HE.out
set_option linter.unusedVariables false in
set_option maxRecDepth 100000 in
set_option maxHeartbeats 1000000 in
theorem act1 (W : World) (cb M rl rc : Nat) (ra : Option Addr) (kd rr a c : Int) (S : CS) (h : CluAt W cb S) (hk : CSOk M S) (hM : M ≤ 1000000000) (hT : Tabs W) (hcb : 2 < cb) (hr1 : Rng64 kd) (hr2 : Rng64 rr) (hr3 : Rng64 a) (hr4 : Rng64 c) (raws : List (Int × Int × Nat)) (hR : RawsAt W W.heap.size (.slice ra rl rc) raws) (hrl : raws.length ≤ 100000000000000) (hj : pk kd 12 = 1) :
    Calls Tryz.prog 18 #[.pointer (some ⟨cb, 0, none⟩), .agg #[.int .i64 kd, .int .i64 rr, .int .i64 a, .int .i64 c, .slice ra rl rc]] W fun e w' => ActEnd W w' cb S e := by
  have hlt := h.way.lt
  have hb0 : Below W.heap.size W (W.alloc (.cells #[.int .i64 kd, .int .i64 rr, .int .i64 a, .int .i64 c, .slice ra rl rc] 60)) := (Below.refl _ _).alloc (Nat.le_refl _) _
  have H0 := hide (h.below hb0)
  have HT0 := hide (hT.below hb0 hT.lt)
  have HK := hide hk
  have HZ : Hid (∀ m ∈ S.ms, m.by_.size ≤ 1000000) := fun m hm => by have := (hk.msg m hm).2.2; omega
  have HTn := hide (Turn.of_below (lo := 0) (hi := 136) hb0 hlt)
  have HR4 := hide hr4
  have C1 : Hid (Calls Tryz.prog 22 #[.int .i64 rr, .int .i64 3] (W.alloc (.cells #[.int .i64 kd, .int .i64 rr, .int .i64 a, .int .i64 c, .slice ra rl rc] 60)) fun e w' => e = .returned (.int .i64 (pk rr 3 : Nat)) ∧ w' = (W.alloc (.cells #[.int .i64 kd, .int .i64 rr, .int .i64 a, .int .i64 c, .slice ra rl rc] 60))) := pick_any rr 3 _ hr2.1 hr2.2 (by omega) (by omega)
  have C0 : Hid (Calls Tryz.prog 22 #[.int .i64 kd, .int .i64 12] (W.alloc (.cells #[.int .i64 kd, .int .i64 rr, .int .i64 a, .int .i64 c, .slice ra rl rc] 60)) fun e w' => e = .returned (.int .i64 1) ∧ w' = (W.alloc (.cells #[.int .i64 kd, .int .i64 rr, .int .i64 a, .int .i64 c, .slice ra rl rc] 60))) := by
    have h1 := pick_any kd 12 (W.alloc (.cells #[.int .i64 kd, .int .i64 rr, .int .i64 a, .int .i64 c, .slice ra rl rc] 60)) hr1.1 hr1.2 (by omega) (by omega)
    rw [hj] at h1
    exact h1
  have hk3 : pk rr 3 < 3 := pk_lt _ _ (by omega)
  generalize pk rr 3 = k at *
  obtain ⟨sv, lp, hrep⟩ := H0.out.rep k hk3
  have C3 := hide (kbatch_fresh W.heap.size _ raws (W.alloc (.cells #[.int .i64 kd, .int .i64 rr, .int .i64 a, .int .i64 c, .slice ra rl rc] 60)) (RawsAt.below hR hb0) (by simp) hrl)
  clear h hk hT hj hr1 hr2
  go_enter Tryz.func18, Tryz.ntmps18
  go_wp2_with fail
  refine C1.out.mono ?_
  rintro e w1 ⟨rfl, rfl⟩
  go_wp2_with fail
  refine C0.out.mono ?_
  rintro e w1 ⟨rfl, rfl⟩
  clear C1 C0
  go_wp2_with fail
  refine C3.out.mono ?_
  rintro e w2 ⟨v2, b, rfl, hF, hok, hlim, hrg, hkb, hb2⟩
  have H2 := hide (H0.out.below hb2)
  have HT2 := hide (HTn.out.trans (Turn.of_below hb2 H0.out.way.lt))
  have HTb := hide (HT0.out.below hb2 HT0.out.lt)
  obtain ⟨sv2, lp2, hrep2⟩ := H2.out.rep k hk3
  have hs2 := hb2.size
  have hs0 : (W.alloc (.cells #[.int .i64 kd, .int .i64 rr, .int .i64 a, .int .i64 c, .slice ra rl rc] 60)).heap.size = W.heap.size + 1 := by simp
  have hsafe : SafeB w2 cb v2 b := fun w' h1 h2 => hF.2 w' h1 fun q q1 q2 => h2 q q2 (by omega)
  obtain ⟨va, vc, rfl, -⟩ := id hsafe.here
  have C2 := hide (cWrite_any w2 cb k M hk3 _ _ _ _ b hrep2 (HK.out.rep k hk3) (by omega) hsafe (small_of_limits hlim) hrg HTb.out hcb)
  have HF := hide hF
  have HOk := hide hok
  have HLim := hide hlim
  have HRg := hide hrg
  have HKb := hide hkb
  clear hF hok hlim hrg hkb hb2 hsafe C3
  go_wp2_with fail
  refine C2.out.mono ?_
  rintro e w3 ⟨n, r', sv', lp', rfl, hw, h1, t1⟩
  have HC3 := hide (H2.out.rep1 hk3 h1 t1)
  have HT3 := hide (HT2.out.trans (t1.wider (lo' := 0) (hi' := 136) (Nat.zero_le _) (by omega)))
  have HF3 : Hid (FreshB w3 W.heap.size (.slice va b.length vc) b) := ⟨fun k e => (by have := HF.out.1 k e; omega), fun w' h1 h2 => HF.out.2 w' (Nat.le_trans t1.size h1) fun q q1 q2 => (h2 q (by omega) (Nat.lt_of_lt_of_le q2 t1.size)).trans (t1.block q q2 (by omega))⟩
  have HSt : Hid (StepOf S (S.put k r') (if n = 0 then b else [])) := by
    rcases hw with ⟨_, rfl, rfl⟩ | ⟨hu, hw⟩
    · rw [CS.put_self]; exact .stay
    · exact .write k n b r' hk3 hu hw HOk.out HLim.out HRg.out HKb.out
  clear h1 t1 hw C2
  by_cases hn0 : n = 0
  · subst hn0
    have HE : Hid (ActEnd W w3 cb S (.returned (.slice va b.length vc))) := ⟨_, b, _, rfl, HSt.out, HC3.out, HT3.out, HF3.out⟩
    go_wp2
    go_ret
    exact HE.out
  · have hni : ¬ ((n : Int) = 0) := by omega
    have HE : Hid (ActEnd W w3 cb S (.returned (.slice none 0 0))) := ActEnd.nil (by have h1 := HSt.out; rw [if_neg hn0] at h1; exact h1) HC3.out HT3.out
    go_wp2
    go_ret
    exact HE.out
set_option linter.unusedVariables false in
set_option maxRecDepth 100000 in
set_option maxHeartbeats 1000000 in
theorem act2 (W : World) (cb M rl rc : Nat) (ra : Option Addr) (kd rr a c : Int) (S : CS) (h : CluAt W cb S) (hk : CSOk M S) (hM : M ≤ 1000000000) (hT : Tabs W) (hcb : 2 < cb) (hr1 : Rng64 kd) (hr2 : Rng64 rr) (hr3 : Rng64 a) (hr4 : Rng64 c) (raws : List (Int × Int × Nat)) (hR : RawsAt W W.heap.size (.slice ra rl rc) raws) (hrl : raws.length ≤ 100000000000000) (hj : pk kd 12 = 2) :
    Calls Tryz.prog 18 #[.pointer (some ⟨cb, 0, none⟩), .agg #[.int .i64 kd, .int .i64 rr, .int .i64 a, .int .i64 c, .slice ra rl rc]] W fun e w' => ActEnd W w' cb S e := by
  have hlt := h.way.lt
  have hb0 : Below W.heap.size W (W.alloc (.cells #[.int .i64 kd, .int .i64 rr, .int .i64 a, .int .i64 c, .slice ra rl rc] 60)) := (Below.refl _ _).alloc (Nat.le_refl _) _
  have H0 := hide (h.below hb0)
  have HT0 := hide (hT.below hb0 hT.lt)
  have HK := hide hk
  have HZ : Hid (∀ m ∈ S.ms, m.by_.size ≤ 1000000) := fun m hm => by have := (hk.msg m hm).2.2; omega
  have HTn := hide (Turn.of_below (lo := 0) (hi := 136) hb0 hlt)
  have HR4 := hide hr4
  have C1 : Hid (Calls Tryz.prog 22 #[.int .i64 rr, .int .i64 3] (W.alloc (.cells #[.int .i64 kd, .int .i64 rr, .int .i64 a, .int .i64 c, .slice ra rl rc] 60)) fun e w' => e = .returned (.int .i64 (pk rr 3 : Nat)) ∧ w' = (W.alloc (.cells #[.int .i64 kd, .int .i64 rr, .int .i64 a, .int .i64 c, .slice ra rl rc] 60))) := pick_any rr 3 _ hr2.1 hr2.2 (by omega) (by omega)
  have C0 : Hid (Calls Tryz.prog 22 #[.int .i64 kd, .int .i64 12] (W.alloc (.cells #[.int .i64 kd, .int .i64 rr, .int .i64 a, .int .i64 c, .slice ra rl rc] 60)) fun e w' => e = .returned (.int .i64 2) ∧ w' = (W.alloc (.cells #[.int .i64 kd, .int .i64 rr, .int .i64 a, .int .i64 c, .slice ra rl rc] 60))) := by
    have h1 := pick_any kd 12 (W.alloc (.cells #[.int .i64 kd, .int .i64 rr, .int .i64 a, .int .i64 c, .slice ra rl rc] 60)) hr1.1 hr1.2 (by omega) (by omega)
    rw [hj] at h1
    exact h1
  have hk3 : pk rr 3 < 3 := pk_lt _ _ (by omega)
  generalize pk rr 3 = k at *
  obtain ⟨sv, lp, hrep⟩ := H0.out.rep k hk3
  have C3 := hide (kbatch_fresh W.heap.size _ raws (W.alloc (.cells #[.int .i64 kd, .int .i64 rr, .int .i64 a, .int .i64 c, .slice ra rl rc] 60)) (RawsAt.below hR hb0) (by simp) hrl)
  clear h hk hT hj hr1 hr2
  go_enter Tryz.func18, Tryz.ntmps18
  go_wp2_with fail
  refine C1.out.mono ?_
  rintro e w1 ⟨rfl, rfl⟩
  go_wp2_with fail
  refine C0.out.mono ?_
  rintro e w1 ⟨rfl, rfl⟩
  clear C1 C0
  go_wp2_with fail
  refine C3.out.mono ?_
  rintro e w2 ⟨v2, b, rfl, hF, hok, hlim, hrg, hkb, hb2⟩
  have H2 := hide (H0.out.below hb2)
  have HT2 := hide (HTn.out.trans (Turn.of_below hb2 H0.out.way.lt))
  have HTb := hide (HT0.out.below hb2 HT0.out.lt)
  obtain ⟨sv2, lp2, hrep2⟩ := H2.out.rep k hk3
  have hs2 := hb2.size
  have hs0 : (W.alloc (.cells #[.int .i64 kd, .int .i64 rr, .int .i64 a, .int .i64 c, .slice ra rl rc] 60)).heap.size = W.heap.size + 1 := by simp
  have hsafe : SafeB w2 cb v2 b := fun w' h1 h2 => hF.2 w' h1 fun q q1 q2 => h2 q q2 (by omega)
  obtain ⟨va, vc, rfl, -⟩ := id hsafe.here
  have C2 := hide (cWrite_any w2 cb k M hk3 _ _ _ _ b hrep2 (HK.out.rep k hk3) (by omega) hsafe (small_of_limits hlim) hrg HTb.out hcb)
  have HF := hide hF
  have HOk := hide hok
  have HLim := hide hlim
  have HRg := hide hrg
  have HKb := hide hkb
  clear hF hok hlim hrg hkb hb2 hsafe C3
  go_wp2_with fail
  refine C2.out.mono ?_
  rintro e w3 ⟨n, r', sv', lp', rfl, hw, h1, t1⟩
  have HC3 := hide (H2.out.rep1 hk3 h1 t1)
  have HT3 := hide (HT2.out.trans (t1.wider (lo' := 0) (hi' := 136) (Nat.zero_le _) (by omega)))
  have HF3 : Hid (FreshB w3 W.heap.size (.slice va b.length vc) b) := ⟨fun k e => (by have := HF.out.1 k e; omega), fun w' h1 h2 => HF.out.2 w' (Nat.le_trans t1.size h1) fun q q1 q2 => (h2 q (by omega) (Nat.lt_of_lt_of_le q2 t1.size)).trans (t1.block q q2 (by omega))⟩
  have HSt : Hid (StepOf S (S.put k r') (if n = 0 then b else [])) := by
    rcases hw with ⟨_, rfl, rfl⟩ | ⟨hu, hw⟩
    · rw [CS.put_self]; exact .stay
    · exact .write k n b r' hk3 hu hw HOk.out HLim.out HRg.out HKb.out
  clear h1 t1 hw C2
  by_cases hn0 : n = 0
  · subst hn0
    have HE : Hid (ActEnd W w3 cb S (.returned (.slice va b.length vc))) := ⟨_, b, _, rfl, HSt.out, HC3.out, HT3.out, HF3.out⟩
    go_wp2
    go_ret
    exact HE.out
  · have hni : ¬ ((n : Int) = 0) := by omega
    have HE : Hid (ActEnd W w3 cb S (.returned (.slice none 0 0))) := ActEnd.nil (by have h1 := HSt.out; rw [if_neg hn0] at h1; exact h1) HC3.out HT3.out
    go_wp2
    go_ret
    exact HE.out
end Go.Proofs.YtamcclcbmenjdaaGreatDoor

/- choirkeep's act, on. -/
namespace Go.Proofs.YtamcclcbmenjdaaGreatDoor
open Go.RowKit Go.Lib

set_option linter.unusedVariables false in
set_option maxRecDepth 100000 in
set_option maxHeartbeats 1000000 in
theorem act4 (W : World) (cb M rl rc : Nat) (ra : Option Addr) (kd rr a c : Int) (S : CS) (h : CluAt W cb S) (hk : CSOk M S) (hM : M ≤ 1000000000) (hT : Tabs W) (hcb : 2 < cb) (hr1 : Rng64 kd) (hr2 : Rng64 rr) (hr3 : Rng64 a) (hr4 : Rng64 c) (hj : pk kd 12 = 4) :
    Calls Tryz.prog 18 #[.pointer (some ⟨cb, 0, none⟩), .agg #[.int .i64 kd, .int .i64 rr, .int .i64 a, .int .i64 c, .slice ra rl rc]] W fun e w' => ActEnd W w' cb S e := by
  have hlt := h.way.lt
  have hb0 : Below W.heap.size W (W.alloc (.cells #[.int .i64 kd, .int .i64 rr, .int .i64 a, .int .i64 c, .slice ra rl rc] 60)) := (Below.refl _ _).alloc (Nat.le_refl _) _
  have H0 := hide (h.below hb0)
  have HT0 := hide (hT.below hb0 hT.lt)
  have HK := hide hk
  have HZ : Hid (∀ m ∈ S.ms, m.by_.size ≤ 1000000) := fun m hm => by have := (hk.msg m hm).2.2; omega
  have HTn := hide (Turn.of_below (lo := 0) (hi := 136) hb0 hlt)
  have HR4 := hide hr4
  have C1 : Hid (Calls Tryz.prog 22 #[.int .i64 rr, .int .i64 3] (W.alloc (.cells #[.int .i64 kd, .int .i64 rr, .int .i64 a, .int .i64 c, .slice ra rl rc] 60)) fun e w' => e = .returned (.int .i64 (pk rr 3 : Nat)) ∧ w' = (W.alloc (.cells #[.int .i64 kd, .int .i64 rr, .int .i64 a, .int .i64 c, .slice ra rl rc] 60))) := pick_any rr 3 _ hr2.1 hr2.2 (by omega) (by omega)
  have C0 : Hid (Calls Tryz.prog 22 #[.int .i64 kd, .int .i64 12] (W.alloc (.cells #[.int .i64 kd, .int .i64 rr, .int .i64 a, .int .i64 c, .slice ra rl rc] 60)) fun e w' => e = .returned (.int .i64 4) ∧ w' = (W.alloc (.cells #[.int .i64 kd, .int .i64 rr, .int .i64 a, .int .i64 c, .slice ra rl rc] 60))) := by
    have h1 := pick_any kd 12 (W.alloc (.cells #[.int .i64 kd, .int .i64 rr, .int .i64 a, .int .i64 c, .slice ra rl rc] 60)) hr1.1 hr1.2 (by omega) (by omega)
    rw [hj] at h1
    exact h1
  have hk3 : pk rr 3 < 3 := pk_lt _ _ (by omega)
  generalize pk rr 3 = k at *
  obtain ⟨sv, lp, hrep⟩ := H0.out.rep k hk3
  have C3 : Hid (Calls Tryz.prog 22 #[.int .i64 a, .int .i64 2] (W.alloc (.cells #[.int .i64 kd, .int .i64 rr, .int .i64 a, .int .i64 c, .slice ra rl rc] 60)) fun e w' => e = .returned (.int .i64 (pk a 2 : Nat)) ∧ w' = (W.alloc (.cells #[.int .i64 kd, .int .i64 rr, .int .i64 a, .int .i64 c, .slice ra rl rc] 60))) := pick_any a 2 _ hr3.1 hr3.2 (by omega) (by omega)
  have hk2 : pk a 2 < 2 := pk_lt _ _ (by omega)
  generalize pk a 2 = p at *
  obtain ⟨t, ht⟩ : ∃ t : Nat, t = (k + 1 + p) % 3 := ⟨_, rfl⟩
  have ht3 : t < 3 := by omega
  have htk : t ≠ k := by omega
  have hw : wrap64 ((k : Int) + 1 + (p : Int)) = (k : Int) + 1 + (p : Int) := by unfold wrap64; omega
  have hti : (wrap64 ((k : Int) + 1 + (p : Int))).tmod 3 = (t : Int) := by rw [hw, Int.tmod_eq_emod_of_nonneg (by omega)]; omega
  have HTi := hide hti
  clear hw hti
  clear ht hk2
  have C2 := hide (cPush_any _ cb k t M hk3 ht3 htk _ _ _ S.ms hrep (HK.out.rep k hk3) H0.out.way HT0.out)
  clear h hk hT hj hr1 hr2
  go_enter Tryz.func18, Tryz.ntmps18
  go_wp2_with fail
  refine C1.out.mono ?_
  rintro e w1 ⟨rfl, rfl⟩
  go_wp2_with fail
  refine C0.out.mono ?_
  rintro e w1 ⟨rfl, rfl⟩
  clear C1 C0
  go_wp2_with fail
  refine C3.out.mono ?_
  rintro e w1 ⟨rfl, rfl⟩
  clear C3
  go_wp2_with fail
  rw [HTi.out]
  refine C2.out.mono ?_
  rintro e w3 ⟨ms2, rfl, hms, h1, t1⟩
  subst hms
  have HE : Hid (ActEnd W w3 cb S (.returned (.slice none 0 0))) := ActEnd.nil (.push k t hk3 ht3 htk) (H0.out.way1 h1 t1) (HTn.out.trans (t1.wider (Nat.zero_le _) (Nat.le_refl _)))
  clear h1 t1 C2
  go_wp2
  all_goals
    go_ret
    exact HE.out
end Go.Proofs.YtamcclcbmenjdaaGreatDoor

/- choirkeep's act: Spoil. -/
namespace Go.Proofs.YtamcclcbmenjdaaGreatDoor
open Go.RowKit Go.Lib

theorem wrap_eight (n : Nat) (h : n ≤ 1000000) : IntKind.i64.wrap (IntKind.i64.wrap (8 * (n : Int)) + 1) = 8 * (n : Int) + 1 := by
  have e : IntKind.i64.wrap (8 * (n : Int)) = 8 * (n : Int) := by rw [IntKind.wrap_i64]; omega
  rw [e, IntKind.wrap_i64]; omega
theorem rng_wrap (x : Int) : Rng64 (IntKind.i64.wrap x) := by
  unfold Rng64
  rw [IntKind.wrap_i64]
  omega
theorem toldM_get {ms : List Msg} : ∀ {i : Nat} {m : Msg}, ms[i]? = some m → (toldM ms)[i * 3 + 2]? = some (.string m.by_) := by
  induction ms with
  | nil => intro i m h; simp at h
  | cons x r ih =>
    intro i m h
    have e : toldM (x :: r) = .int .i64 x.fr :: .int .i64 x.to :: .string x.by_ :: toldM r := by simp [toldM, Msg.cs3]
    rw [e]
    cases i with
    | zero => simp at h; subst h; rfl
    | succ i =>
      rw [show (i + 1) * 3 + 2 = (i * 3 + 2) + 3 by omega]
      exact ih (by simpa using h)
set_option linter.unusedVariables false in
set_option maxRecDepth 100000 in
set_option maxHeartbeats 1000000 in
theorem act9 (W : World) (cb M rl rc : Nat) (ra : Option Addr) (kd rr a c : Int) (S : CS) (h : CluAt W cb S) (hk : CSOk M S) (hM : M ≤ 1000000000) (hT : Tabs W) (hcb : 2 < cb) (hr1 : Rng64 kd) (hr2 : Rng64 rr) (hr3 : Rng64 a) (hr4 : Rng64 c) (hj : pk kd 12 = 9) :
    Calls Tryz.prog 18 #[.pointer (some ⟨cb, 0, none⟩), .agg #[.int .i64 kd, .int .i64 rr, .int .i64 a, .int .i64 c, .slice ra rl rc]] W fun e w' => ActEnd W w' cb S e := by
  have hlt := h.way.lt
  have hb0 : Below W.heap.size W (W.alloc (.cells #[.int .i64 kd, .int .i64 rr, .int .i64 a, .int .i64 c, .slice ra rl rc] 60)) := (Below.refl _ _).alloc (Nat.le_refl _) _
  have H0 := hide (h.below hb0)
  have HT0 := hide (hT.below hb0 hT.lt)
  have HK := hide hk
  have HZ : Hid (∀ m ∈ S.ms, m.by_.size ≤ 1000000) := fun m hm => by have := (hk.msg m hm).2.2; omega
  have HTn := hide (Turn.of_below (lo := 0) (hi := 136) hb0 hlt)
  have HR4 := hide hr4
  have C1 : Hid (Calls Tryz.prog 22 #[.int .i64 rr, .int .i64 3] (W.alloc (.cells #[.int .i64 kd, .int .i64 rr, .int .i64 a, .int .i64 c, .slice ra rl rc] 60)) fun e w' => e = .returned (.int .i64 (pk rr 3 : Nat)) ∧ w' = (W.alloc (.cells #[.int .i64 kd, .int .i64 rr, .int .i64 a, .int .i64 c, .slice ra rl rc] 60))) := pick_any rr 3 _ hr2.1 hr2.2 (by omega) (by omega)
  have C0 : Hid (Calls Tryz.prog 22 #[.int .i64 kd, .int .i64 12] (W.alloc (.cells #[.int .i64 kd, .int .i64 rr, .int .i64 a, .int .i64 c, .slice ra rl rc] 60)) fun e w' => e = .returned (.int .i64 9) ∧ w' = (W.alloc (.cells #[.int .i64 kd, .int .i64 rr, .int .i64 a, .int .i64 c, .slice ra rl rc] 60))) := by
    have h1 := pick_any kd 12 (W.alloc (.cells #[.int .i64 kd, .int .i64 rr, .int .i64 a, .int .i64 c, .slice ra rl rc] 60)) hr1.1 hr1.2 (by omega) (by omega)
    rw [hj] at h1
    exact h1
  have hk3 : pk rr 3 < 3 := pk_lt _ _ (by omega)
  generalize pk rr 3 = k at *
  obtain ⟨sv, lp, hrep⟩ := H0.out.rep k hk3
  have CW := hide (kway_any _ cb a S.ms H0.out.way HZ.out hr3.1 hr3.2)
  clear h hk hT hj hr1 hr2
  go_enter Tryz.func18, Tryz.ntmps18
  go_wp2_with fail
  refine C1.out.mono ?_
  rintro e w1 ⟨rfl, rfl⟩
  go_wp2_with fail
  refine C0.out.mono ?_
  rintro e w1 ⟨rfl, rfl⟩
  clear C1 C0
  go_wp2_with fail
  refine CW.out.mono ?_
  rintro e w2 ⟨⟨i, rfl, hi⟩, hb2⟩
  have H2 := hide (H0.out.below hb2)
  have HT2 := hide (HTn.out.trans (Turn.of_below hb2 H0.out.way.lt))
  have CM := hide (cMessages_any w2 cb S.ms H2.out.way HZ.out)
  have hs2 := hb2.size
  have b3 : w2.cell? ⟨W.heap.size, 3, none⟩ = some (.int .i64 c) := (hb2.cell (p := ⟨W.heap.size, 3, none⟩) (by simp)).trans (World.cell?_alloc_new _ _ _ 3)
  have hlt2 : W.heap.size < w2.heap.size := by simp at hs2; omega
  clear hb2 CW
  go_wp2_with fail
  refine CM.out.mono ?_
  rintro e w3 ⟨v3, rfl, ho, hb3⟩
  obtain ⟨va, vc, rfl⟩ := own_shape ho
  have H3 := hide (H2.out.below hb3)
  have HT3 := hide (HT2.out.trans (Turn.of_below hb3 H2.out.way.lt))
  have d3 : w3.cell? ⟨W.heap.size, 3, none⟩ = some (.int .i64 c) := (hb3.cell (p := ⟨W.heap.size, 3, none⟩) hlt2).trans b3
  clear hb3 CM b3
  by_cases hil : i < S.ms.length
  · obtain ⟨m, hm⟩ : ∃ m, S.ms[i]? = some m := ⟨_, List.getElem?_eq_getElem hil⟩
    have hmz := HZ.out m (List.mem_of_getElem? hm)
    obtain ⟨g, cap, hg⟩ := own_some ho (by omega)
    rw [hg] at ho
    have x2 := own_cell ho (toldM_get hm)
    obtain ⟨rfl, rfl⟩ : va = some ⟨g, 0, none⟩ ∧ vc = cap := by cases hg; exact ⟨rfl, rfl⟩
    have hili : (i : Int) < (S.ms.length : Int) := by omega
    clear ho hm hg
    go_wp2_with fail
    have hm8 : ((8 * m.by_.size + 1 : Nat) : Int) = 8 * (m.by_.size : Int) + 1 := by omega
    have C1 := pick_any c (8 * m.by_.size + 1) w3.drew HR4.out.1 HR4.out.2 (by omega) (by omega)
    rw [hm8] at C1
    have HWr : Hid (IntKind.i64.wrap (IntKind.i64.wrap (8 * (m.by_.size : Int)) + 1) = 8 * (m.by_.size : Int) + 1) := wrap_eight _ hmz
    have CA := hide C1
    have CB : Hid (∀ x, Rng64 x → Calls Tryz.prog 22 #[.int .i64 x, .int .i64 4294967295] w3.drew fun e w' => e = .returned (.int .i64 (pk x 4294967295 : Nat)) ∧ w' = w3.drew) := fun x hx => pick_any x 4294967295 w3.drew hx.1 hx.2 (by omega) (by omega)
    have CS : Hid (∀ x y, Calls Tryz.prog 57 #[.pointer (some ⟨cb, 0, none⟩), .int .i64 i, .int .i64 x, .int .i64 y] w3.drew fun e w' => SpoilEnd w3.drew w' cb S.ms e) := fun x y => cSpoil_any w3.drew cb i x y S.ms (H3.out.way.same rfl) HZ.out
    clear C1 hm8 hs2
    refine region_anyL (S := fun w' => w'.cell? ⟨W.heap.size, 3, none⟩ = some (.int .i64 c) ∧ w'.cell? ⟨g, i * 3 + 2, none⟩ = some (.string m.by_)) 18 (by kernel_rfl) ⟨d3, x2⟩ (fun hS => ?_)
    refine anyL_take 0 (oi := ?zo0) (v := ?zv0) ?zhi0 (by kernel_rfl) (by kernel_rfl) (by kernel_rfl) (by kernel_rfl) (by kernel_rfl) (by kernel_rfl) ?zq0 (Or.inl ⟨?zwa0, ?zy0⟩) hS ?zrest0
    case zhi0 => simp only [List.getElem?_toArray, List.getElem?_cons_zero]; rfl
    case zwa0 => rfl
    case zy0 => intro wz hz; obtain ⟨z1, z2⟩ := hz; go_simp <;> rfl
    case zq0 => exact fun _ _ _ h => h
    simp only [Act.put, List.setIfInBounds_toArray, List.set_cons_zero, List.set_cons_succ]
    refine anyL_take 1 (oi := ?zo1) (v := ?zv1) ?zhi1 (by kernel_rfl) (by kernel_rfl) (by kernel_rfl) (by kernel_rfl) (by kernel_rfl) (by kernel_rfl) ?zq1 (Or.inl ⟨?zwa1, ?zy1⟩) hS ?zrest1
    case zhi1 => simp only [List.getElem?_toArray, List.getElem?_cons_zero, List.getElem?_cons_succ]; rfl
    case zwa1 => rfl
    case zy1 => intro wz hz; obtain ⟨z1, z2⟩ := hz; go_simp <;> rfl
    case zq1 => exact fun _ _ _ h => h
    simp only [Act.put, List.setIfInBounds_toArray, List.set_cons_zero, List.set_cons_succ]
    refine anyL_take 2 (oi := ?zo2) (v := ?zv2) ?zhi2 (by kernel_rfl) (by kernel_rfl) (by kernel_rfl) (by kernel_rfl) (by kernel_rfl) (by kernel_rfl) ?zq2 (Or.inl ⟨?zwa2, ?zy2⟩) hS ?zrest2
    case zhi2 => simp only [List.getElem?_toArray, List.getElem?_cons_zero, List.getElem?_cons_succ]; rfl
    case zwa2 => rfl
    case zy2 => intro wz hz; obtain ⟨z1, z2⟩ := hz; go_simp <;> rfl
    case zq2 => exact fun _ _ _ h => h
    simp only [Act.put, List.setIfInBounds_toArray, List.set_cons_zero, List.set_cons_succ]
    refine anyL_take 3 (oi := ?zo3) (v := ?zv3) ?zhi3 (by kernel_rfl) (by kernel_rfl) (by kernel_rfl) (by kernel_rfl) (by kernel_rfl) (by kernel_rfl) ?zq3 (Or.inl ⟨?zwa3, ?zy3⟩) hS ?zrest3
    case zhi3 => simp only [List.getElem?_toArray, List.getElem?_cons_zero, List.getElem?_cons_succ]; rfl
    case zwa3 => rfl
    case zy3 => intro wz hz; obtain ⟨z1, z2⟩ := hz; go_simp <;> rfl
    case zq3 => exact fun _ _ _ h => h
    simp only [Act.put, List.setIfInBounds_toArray, List.set_cons_zero, List.set_cons_succ]
    refine anyL_take 4 (oi := ?zo4) (v := ?zv4) ?zhi4 (by kernel_rfl) (by kernel_rfl) (by kernel_rfl) (by kernel_rfl) (by kernel_rfl) (by kernel_rfl) ?zq4 (Or.inl ⟨?zwa4, ?zy4⟩) hS ?zrest4
    case zhi4 => simp only [List.getElem?_toArray, List.getElem?_cons_zero, List.getElem?_cons_succ]; rfl
    case zwa4 => rfl
    case zy4 => intro wz hz; obtain ⟨z1, z2⟩ := hz; go_simp <;> rfl
    case zq4 => exact fun _ _ _ h => h
    simp only [Act.put, List.setIfInBounds_toArray, List.set_cons_zero, List.set_cons_succ]
    refine anyL_take 5 (oi := ?zo5) (v := ?zv5) ?zhi5 (by kernel_rfl) (by kernel_rfl) (by kernel_rfl) (by kernel_rfl) (by kernel_rfl) (by kernel_rfl) ?zq5 (Or.inl ⟨?zwa5, ?zy5⟩) hS ?zrest5
    case zhi5 => simp only [List.getElem?_toArray, List.getElem?_cons_zero, List.getElem?_cons_succ]; rfl
    case zwa5 => rfl
    case zy5 => intro wz hz; obtain ⟨z1, z2⟩ := hz; go_simp <;> rfl
    case zq5 => exact fun _ _ _ h => h
    simp only [Act.put, List.setIfInBounds_toArray, List.set_cons_zero, List.set_cons_succ]
    refine anyL_take 6 (oi := ?zo6) (v := ?zv6) ?zhi6 (by kernel_rfl) (by kernel_rfl) (by kernel_rfl) (by kernel_rfl) (by kernel_rfl) (by kernel_rfl) ?zq6 (Or.inl ⟨?zwa6, ?zy6⟩) hS ?zrest6
    case zhi6 => simp only [List.getElem?_toArray, List.getElem?_cons_zero, List.getElem?_cons_succ]; rfl
    case zwa6 => rfl
    case zy6 => intro wz hz; obtain ⟨z1, z2⟩ := hz; go_simp <;> rfl
    case zq6 => exact fun _ _ _ h => h
    simp only [Act.put, List.setIfInBounds_toArray, List.set_cons_zero, List.set_cons_succ]
    refine anyL_take 7 (oi := ?zo7) (v := ?zv7) ?zhi7 (by kernel_rfl) (by kernel_rfl) (by kernel_rfl) (by kernel_rfl) (by kernel_rfl) (by kernel_rfl) ?zq7 (Or.inl ⟨?zwa7, ?zy7⟩) hS ?zrest7
    case zhi7 => simp only [List.getElem?_toArray, List.getElem?_cons_zero, List.getElem?_cons_succ]; rfl
    case zwa7 => rfl
    case zy7 => intro wz hz; obtain ⟨z1, z2⟩ := hz; go_simp <;> rfl
    case zq7 => exact fun _ _ _ h => h
    simp only [Act.put, List.setIfInBounds_toArray, List.set_cons_zero, List.set_cons_succ]
    refine anyL_take 8 (oi := ?zo8) (v := ?zv8) ?zhi8 (by kernel_rfl) (by kernel_rfl) (by kernel_rfl) (by kernel_rfl) (by kernel_rfl) (by kernel_rfl) ?zq8 (Or.inl ⟨?zwa8, ?zy8⟩) hS ?zrest8
    case zhi8 => simp only [List.getElem?_toArray, List.getElem?_cons_zero, List.getElem?_cons_succ]; rfl
    case zwa8 => rfl
    case zy8 => intro wz hz; obtain ⟨z1, z2⟩ := hz; go_simp <;> rfl
    case zq8 => exact fun _ _ _ h => h
    simp only [Act.put, List.setIfInBounds_toArray, List.set_cons_zero, List.set_cons_succ]
    refine anyL_take 9 (oi := ?zo9) (v := ?zv9) ?zhi9 (by kernel_rfl) (by kernel_rfl) (by kernel_rfl) (by kernel_rfl) (by kernel_rfl) (by kernel_rfl) ?zq9 (Or.inl ⟨?zwa9, ?zy9⟩) hS ?zrest9
    case zhi9 => simp only [List.getElem?_toArray, List.getElem?_cons_zero, List.getElem?_cons_succ]; rfl
    case zwa9 => rfl
    case zy9 => intro wz hz; obtain ⟨z1, z2⟩ := hz; go_simp <;> rfl
    case zq9 => exact fun _ _ _ h => h
    simp only [Act.put, List.setIfInBounds_toArray, List.set_cons_zero, List.set_cons_succ]
    refine anyL_take 10 (oi := ?zo10) (v := ?zv10) ?zhi10 (by kernel_rfl) (by kernel_rfl) (by kernel_rfl) (by kernel_rfl) (by kernel_rfl) (by kernel_rfl) ?zq10 (Or.inl ⟨?zwa10, ?zy10⟩) hS ?zrest10
    case zhi10 => simp only [List.getElem?_toArray, List.getElem?_cons_zero, List.getElem?_cons_succ]; rfl
    case zwa10 => rfl
    case zy10 => intro wz hz; obtain ⟨z1, z2⟩ := hz; go_simp <;> rfl
    case zq10 => exact fun _ _ _ h => h
    simp only [Act.put, List.setIfInBounds_toArray, List.set_cons_zero, List.set_cons_succ]
    refine anyL_take 11 (oi := ?zo11) (v := ?zv11) ?zhi11 (by kernel_rfl) (by kernel_rfl) (by kernel_rfl) (by kernel_rfl) (by kernel_rfl) (by kernel_rfl) ?zq11 (Or.inl ⟨?zwa11, ?zy11⟩) hS ?zrest11
    case zhi11 => simp only [List.getElem?_toArray, List.getElem?_cons_zero, List.getElem?_cons_succ]; rfl
    case zwa11 => rfl
    case zy11 => intro wz hz; obtain ⟨z1, z2⟩ := hz; go_simp <;> rfl
    case zq11 => exact fun _ _ _ h => h
    simp only [Act.put, List.setIfInBounds_toArray, List.set_cons_zero, List.set_cons_succ]
    refine anyL_take 13 (oi := ?zo13) (v := ?zv13) ?zhi13 (by kernel_rfl) (by kernel_rfl) (by kernel_rfl) (by kernel_rfl) (by kernel_rfl) (by kernel_rfl) ?zq13 (Or.inl ⟨?zwa13, ?zy13⟩) hS ?zrest13
    case zhi13 => simp only [List.getElem?_toArray, List.getElem?_cons_zero, List.getElem?_cons_succ]; rfl
    case zwa13 => rfl
    case zy13 => intro wz hz; obtain ⟨z1, z2⟩ := hz; go_simp <;> rfl
    case zq13 => exact fun _ _ _ h => h
    simp only [Act.put, List.setIfInBounds_toArray, List.set_cons_zero, List.set_cons_succ]
    refine anyL_take 14 (oi := ?zo14) (v := ?zv14) ?zhi14 (by kernel_rfl) (by kernel_rfl) (by kernel_rfl) (by kernel_rfl) (by kernel_rfl) (by kernel_rfl) ?zq14 (Or.inl ⟨?zwa14, ?zy14⟩) hS ?zrest14
    case zhi14 => simp only [List.getElem?_toArray, List.getElem?_cons_zero, List.getElem?_cons_succ]; rfl
    case zwa14 => rfl
    case zy14 => intro wz hz; obtain ⟨z1, z2⟩ := hz; go_simp <;> rfl
    case zq14 => exact fun _ _ _ h => h
    simp only [Act.put, List.setIfInBounds_toArray, List.set_cons_zero, List.set_cons_succ]
    refine anyL_take 15 (oi := ?zo15) (v := ?zv15) ?zhi15 (by kernel_rfl) (by kernel_rfl) (by kernel_rfl) (by kernel_rfl) (by kernel_rfl) (by kernel_rfl) ?zq15 (Or.inl ⟨?zwa15, ?zy15⟩) hS ?zrest15
    case zhi15 => simp only [List.getElem?_toArray, List.getElem?_cons_zero, List.getElem?_cons_succ]; rfl
    case zwa15 => rfl
    case zy15 => intro wz hz; obtain ⟨z1, z2⟩ := hz; go_simp <;> rfl
    case zq15 => exact fun _ _ _ h => h
    simp only [Act.put, List.setIfInBounds_toArray, List.set_cons_zero, List.set_cons_succ]
    refine anyL_one 12 (o := ?zo12) (by kernel_rfl) ?zhi12 (by kernel_rfl) ?zst12
    case zhi12 => simp only [List.getElem?_toArray, List.getElem?_cons_zero, List.getElem?_cons_succ]; rfl
    intro K hK
    go_simp
    rw [HWr.out]
    refine CA.out.mono ?_
    rintro e5 w5 ⟨rfl, rfl⟩
    generalize pk c (8 * m.by_.size + 1) = p1 at *
    refine hK.out _ _ ⟨d3, x2⟩ (fun hS2 => ?_)
    clear hK K hS CA
    refine anyL_one 16 (o := ?zo16) (by kernel_rfl) ?zhi16 (by kernel_rfl) ?zst16
    case zhi16 => simp only [List.getElem?_toArray, List.getElem?_cons_zero, List.getElem?_cons_succ]; rfl
    intro K hK
    go_simp
    refine (CB.out _ (rng_wrap _)).mono ?_
    rintro e5 w5 ⟨rfl, rfl⟩
    refine hK.out _ _ ⟨d3, x2⟩ (fun hS3 => ?_)
    clear hK K hS2 CB
    refine anyL_take 17 (oi := ?zo17) (v := ?zv17) ?zhi17 (by kernel_rfl) (by kernel_rfl) (by kernel_rfl) (by kernel_rfl) (by kernel_rfl) (by kernel_rfl) ?zq17 (Or.inl ⟨?zwa17, ?zy17⟩) hS3 ?zrest17
    case zhi17 => simp only [List.getElem?_toArray, List.getElem?_cons_zero, List.getElem?_cons_succ]; rfl
    case zwa17 => rfl
    case zy17 => intro wz hz; obtain ⟨z1, z2⟩ := hz; go_simp <;> rfl
    case zq17 => exact fun _ _ _ h => h
    simp only [Act.put, List.setIfInBounds_toArray, List.set_cons_zero, List.set_cons_succ]
    refine anyL_last 18 (o := ?zo18) (by kernel_rfl) ?zhi18 (by kernel_rfl) (by kernel_rfl) ?zst18
    case zhi18 => simp only [List.getElem?_toArray, List.getElem?_cons_zero, List.getElem?_cons_succ]; rfl
    intro K hK
    go_simp
    refine (CS.out _ _).mono ?_
    rintro e6 w6 ⟨n, ms2, rfl, hsp, hw6, ht6⟩
    refine hK.out _ _ ?_
    have HE : Hid (ActEnd W w6 cb S (.returned (.slice none 0 0))) := ActEnd.nil (.spoil ms2 hsp) ((H3.out.below (Below.refl _ _).drew).way1 hw6 ht6) ((HT3.out.drewN 1).trans (ht6.wider (Nat.zero_le _) (Nat.le_refl _)))
    clear hK K hS3 hsp hw6 ht6 CS
    go_wp2
    go_ret
    exact HE.out
  · have hili : ¬ ((i : Int) < (S.ms.length : Int)) := by omega
    have HE : Hid (ActEnd W w3 cb S (.returned (.slice none 0 0))) := ActEnd.nil .stay H3.out HT3.out
    clear ho
    go_wp2
    go_ret
    exact HE.out
end Go.Proofs.YtamcclcbmenjdaaGreatDoor

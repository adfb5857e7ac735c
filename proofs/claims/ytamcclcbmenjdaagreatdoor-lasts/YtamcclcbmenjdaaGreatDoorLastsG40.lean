/- 'choirkeep.Lasts', for any two lists of steps (100 of each are done) and any numbers: what a replica had when it was synced or compacted it has behind any crash and restart, whatever came between; and a second restart changes nothing. The first form's statement and its card: no condition beside the row's own. -/
import Derived.Test.YtamcclcbmenjdaaGreatDoorLastsG39
import Derived.Test.YtamcclcbmenjdaaGreatDoorLastsG21
/- choirkeep's act: a step. -/
namespace Go.Proofs.YtamcclcbmenjdaaGreatDoor
open Go.RowKit Go.Lib

/-- What a step makes of a cluster, and the batch that was taken. -/
def StepOf (S S' : CS) (b : List Ser) : Prop :=
  (S' = S ∧ b = []) ∨ (∃ k : Nat, k < 3 ∧ S' = S.put k (if (S.r k).up then { S.r k with la := logSize (S.r k).log } else S.r k) ∧ b = []) ∨
  (∃ k t : Nat, k < 3 ∧ t < 3 ∧ t ≠ k ∧ S' = ⟨S.r, if (S.r k).up then pushed S.ms ⟨k, t, frB (S.r k).bs, 0⟩ else S.ms⟩ ∧ b = []) ∨ (∃ (i : Int) (n : Nat), DelivOf S i n S' ∧ b = []) ∨ (∃ k : Nat, S' = ⟨S.r, S.ms.eraseIdx k⟩ ∧ b = []) ∨
  (∃ (k : Nat) (m : Msg), S.ms[k]? = some m ∧ S' = ⟨S.r, pushed S.ms m⟩ ∧ b = []) ∨ (∃ ms' : List Msg, SpoilOf S.ms ms' ∧ S' = ⟨S.r, ms'⟩ ∧ b = []) ∨ (∃ (k : Nat) (keep : Int), k < 3 ∧ S' = S.put k (if (S.r k).up then crashOf (S.r k) keep else S.r k) ∧ b = []) ∨
  (∃ (k n : Nat) (r' : RS), k < 3 ∧ RestartOf (S.r k) n r' ∧ S' = S.put k r' ∧ b = []) ∨
  (∃ (k n : Nat) (b' : List Ser) (r' : RS), k < 3 ∧ (S.r k).up = true ∧ WriteOf (S.r k) b' n r' ∧ BatchOk b' ∧ LimitsOk b' ∧ InRange b' ∧ KB b' 10 ∧ S' = S.put k r' ∧ b = if n = 0 then b' else [])
section
variable {S : CS}
theorem StepOf.stay : StepOf S S [] := .inl ⟨rfl, rfl⟩
theorem StepOf.sync (k : Nat) (hk : k < 3) : StepOf S (S.put k (if (S.r k).up then { S.r k with la := logSize (S.r k).log } else S.r k)) [] := .inr (.inl ⟨k, hk, rfl, rfl⟩)
theorem StepOf.push (k t : Nat) (hk : k < 3) (ht : t < 3) (hne : t ≠ k) : StepOf S ⟨S.r, if (S.r k).up then pushed S.ms ⟨k, t, frB (S.r k).bs, 0⟩ else S.ms⟩ [] := .inr (.inr (.inl ⟨k, t, hk, ht, hne, rfl, rfl⟩))
theorem StepOf.deliver (i : Int) (n : Nat) (S' : CS) (h : DelivOf S i n S') : StepOf S S' [] := .inr (.inr (.inr (.inl ⟨i, n, h, rfl⟩)))
theorem StepOf.drop (k : Nat) : StepOf S ⟨S.r, S.ms.eraseIdx k⟩ [] := .inr (.inr (.inr (.inr (.inl ⟨k, rfl, rfl⟩))))
theorem StepOf.twice (k : Nat) (m : Msg) (h : S.ms[k]? = some m) : StepOf S ⟨S.r, pushed S.ms m⟩ [] := .inr (.inr (.inr (.inr (.inr (.inl ⟨k, m, h, rfl, rfl⟩)))))
theorem StepOf.spoil (ms' : List Msg) (h : SpoilOf S.ms ms') : StepOf S ⟨S.r, ms'⟩ [] := .inr (.inr (.inr (.inr (.inr (.inr (.inl ⟨ms', h, rfl, rfl⟩))))))
theorem StepOf.crash (k : Nat) (keep : Int) (hk : k < 3) : StepOf S (S.put k (if (S.r k).up then crashOf (S.r k) keep else S.r k)) [] := .inr (.inr (.inr (.inr (.inr (.inr (.inr (.inl ⟨k, keep, hk, rfl, rfl⟩)))))))
theorem StepOf.restart (k n : Nat) (r' : RS) (hk : k < 3) (h : RestartOf (S.r k) n r') : StepOf S (S.put k r') [] := .inr (.inr (.inr (.inr (.inr (.inr (.inr (.inr (.inl ⟨k, n, r', hk, h, rfl, rfl⟩))))))))
theorem StepOf.write (k n : Nat) (b : List Ser) (r' : RS) (hk : k < 3) (hu : (S.r k).up = true) (h : WriteOf (S.r k) b n r') (h1 : BatchOk b) (h2 : LimitsOk b) (h3 : InRange b) (h4 : KB b 10) : StepOf S (S.put k r') (if n = 0 then b else []) :=
  .inr (.inr (.inr (.inr (.inr (.inr (.inr (.inr (.inr ⟨k, n, b, r', hk, hu, h, h1, h2, h3, h4, rfl, rfl⟩))))))))
theorem StepOf.elim {motive : ∀ (S' : CS) (b : List Ser), StepOf S S' b → Prop} (stay : motive S [] StepOf.stay) (sync : ∀ k hk, motive _ _ (StepOf.sync k hk)) (push : ∀ k t hk ht hne, motive _ _ (StepOf.push k t hk ht hne)) (deliver : ∀ i n S' h, motive _ _ (StepOf.deliver i n S' h))
    (drop : ∀ k, motive _ _ (StepOf.drop k)) (twice : ∀ k m h, motive _ _ (StepOf.twice k m h)) (spoil : ∀ ms' h, motive _ _ (StepOf.spoil ms' h)) (crash : ∀ k keep hk, motive _ _ (StepOf.crash k keep hk)) (restart : ∀ k n r' hk h, motive _ _ (StepOf.restart k n r' hk h))
    (write : ∀ k n b r' hk hu h h1 h2 h3 h4, motive _ _ (StepOf.write k n b r' hk hu h h1 h2 h3 h4)) {S' : CS} {b : List Ser} (h : StepOf S S' b) : motive S' b h := by
  match h with
  | .inl ⟨e1, e2⟩ => subst e1; subst e2; exact stay
  | .inr (.inl ⟨k, hk, e1, e2⟩) => subst e1; subst e2; exact sync k hk
  | .inr (.inr (.inl ⟨k, t, hk, ht, hne, e1, e2⟩)) => subst e1; subst e2; exact push k t hk ht hne
  | .inr (.inr (.inr (.inl ⟨i, n, g, e2⟩))) => subst e2; exact deliver i n _ g
  | .inr (.inr (.inr (.inr (.inl ⟨k, e1, e2⟩)))) => subst e1; subst e2; exact drop k
  | .inr (.inr (.inr (.inr (.inr (.inl ⟨k, m, g, e1, e2⟩))))) => subst e1; subst e2; exact twice k m g
  | .inr (.inr (.inr (.inr (.inr (.inr (.inl ⟨ms', g, e1, e2⟩)))))) => subst e1; subst e2; exact spoil ms' g
  | .inr (.inr (.inr (.inr (.inr (.inr (.inr (.inl ⟨k, keep, hk, e1, e2⟩))))))) => subst e1; subst e2; exact crash k keep hk
  | .inr (.inr (.inr (.inr (.inr (.inr (.inr (.inr (.inl ⟨k, n, r', hk, g, e1, e2⟩)))))))) => subst e1; subst e2; exact restart k n r' hk g
  | .inr (.inr (.inr (.inr (.inr (.inr (.inr (.inr (.inr ⟨k, n, b', r', hk, hu, g, h1, h2, h3, h4, e1, e2⟩)))))))) => subst e1; subst e2; exact write k n b' r' hk hu g h1 h2 h3 h4
end
theorem CS.put_self (S : CS) (k : Nat) : S.put k (S.r k) = S := by
  obtain ⟨r, ms⟩ := S
  unfold CS.put
  congr 1
  funext j
  by_cases e : j = k
  · subst e; simp
  · simp [e]
def ActEnd (W w' : World) (cb : Nat) (S : CS) (e : Ending) : Prop := ∃ v b S', e = .returned v ∧ StepOf S S' b ∧ CluAt w' cb S' ∧ Turn W w' cb 0 136 ∧ FreshB w' W.heap.size v b
theorem ActEnd.nil {W w' : World} {cb : Nat} {S S' : CS} (h1 : StepOf S S' []) (h2 : CluAt w' cb S') (h3 : Turn W w' cb 0 136) : ActEnd W w' cb S (.returned (.slice none 0 0)) :=
  ⟨_, [], S', rfl, h1, h2, h3, fun k e => (by cases e), fun _ _ _ => ⟨none, 0, rfl, Nat.le_refl _, .inl rfl⟩⟩
def Rng64 (c : Int) : Prop := -9223372036854775808 ≤ c ∧ c ≤ 9223372036854775807
set_option linter.unusedVariables false in
set_option maxRecDepth 100000 in
set_option maxHeartbeats 1000000 in
theorem act3 (W : World) (cb M rl rc : Nat) (ra : Option Addr) (kd rr a c : Int) (S : CS) (h : CluAt W cb S) (hk : CSOk M S) (hM : M ≤ 1000000000) (hT : Tabs W) (hcb : 2 < cb) (hr1 : Rng64 kd) (hr2 : Rng64 rr) (hr3 : Rng64 a) (hr4 : Rng64 c) (hj : pk kd 12 = 3) :
    Calls Tryz.prog 18 #[.pointer (some ⟨cb, 0, none⟩), .agg #[.int .i64 kd, .int .i64 rr, .int .i64 a, .int .i64 c, .slice ra rl rc]] W fun e w' => ActEnd W w' cb S e := by
  have hlt := h.way.lt
  have hb0 : Below W.heap.size W (W.alloc (.cells #[.int .i64 kd, .int .i64 rr, .int .i64 a, .int .i64 c, .slice ra rl rc] 60)) := (Below.refl _ _).alloc (Nat.le_refl _) _
  have H0 := hide (h.below hb0)
  have HT0 := hide (hT.below hb0 hT.lt)
  have HK := hide hk
  have HZ : Hid (∀ m ∈ S.ms, m.by_.size ≤ 1000000) := fun m hm => by have := (hk.msg m hm).2.2; omega
  have HTn := hide (Turn.of_below (lo := 0) (hi := 136) hb0 hlt)
  have HR4 := hide hr4
  have C1 : Hid (Calls Tryz.prog 22 #[.int .i64 rr, .int .i64 3] (W.alloc (.cells #[.int .i64 kd, .int .i64 rr, .int .i64 a, .int .i64 c, .slice ra rl rc] 60)) fun e w' => e = .returned (.int .i64 (pk rr 3 : Nat)) ∧ w' = (W.alloc (.cells #[.int .i64 kd, .int .i64 rr, .int .i64 a, .int .i64 c, .slice ra rl rc] 60))) := pick_any rr 3 _ hr2.1 hr2.2 (by omega) (by omega)
  have C0 : Hid (Calls Tryz.prog 22 #[.int .i64 kd, .int .i64 12] (W.alloc (.cells #[.int .i64 kd, .int .i64 rr, .int .i64 a, .int .i64 c, .slice ra rl rc] 60)) fun e w' => e = .returned (.int .i64 3) ∧ w' = (W.alloc (.cells #[.int .i64 kd, .int .i64 rr, .int .i64 a, .int .i64 c, .slice ra rl rc] 60))) := by
    have h1 := pick_any kd 12 (W.alloc (.cells #[.int .i64 kd, .int .i64 rr, .int .i64 a, .int .i64 c, .slice ra rl rc] 60)) hr1.1 hr1.2 (by omega) (by omega)
    rw [hj] at h1
    exact h1
  have hk3 : pk rr 3 < 3 := pk_lt _ _ (by omega)
  generalize pk rr 3 = k at *
  obtain ⟨sv, lp, hrep⟩ := H0.out.rep k hk3
  have C2 := hide (cSync_any _ cb k hk3 _ _ _ hrep)
  clear h hk hT hj hr1 hr2
  go_enter Tryz.func18, Tryz.ntmps18
  go_wp2_with fail
  refine C1.out.mono ?_
  rintro e w1 ⟨rfl, rfl⟩
  go_wp2_with fail
  refine C0.out.mono ?_
  rintro e w1 ⟨rfl, rfl⟩
  clear C1 C0
  go_wp2_with fail
  refine C2.out.mono ?_
  rintro e w3 ⟨rfl, h1, t1⟩
  have HE : Hid (ActEnd W w3 cb S (.returned (.slice none 0 0))) := ActEnd.nil (.sync k hk3) (H0.out.rep1 hk3 h1 t1) (HTn.out.trans (t1.wider (Nat.zero_le _) (by omega)))
  clear h1 t1 C2
  go_wp2
  all_goals
    go_ret
    exact HE.out
set_option linter.unusedVariables false in
set_option maxRecDepth 100000 in
set_option maxHeartbeats 1000000 in
theorem act10 (W : World) (cb M rl rc : Nat) (ra : Option Addr) (kd rr a c : Int) (S : CS) (h : CluAt W cb S) (hk : CSOk M S) (hM : M ≤ 1000000000) (hT : Tabs W) (hcb : 2 < cb) (hr1 : Rng64 kd) (hr2 : Rng64 rr) (hr3 : Rng64 a) (hr4 : Rng64 c) (hj : pk kd 12 = 10) :
    Calls Tryz.prog 18 #[.pointer (some ⟨cb, 0, none⟩), .agg #[.int .i64 kd, .int .i64 rr, .int .i64 a, .int .i64 c, .slice ra rl rc]] W fun e w' => ActEnd W w' cb S e := by
  have hlt := h.way.lt
  have hb0 : Below W.heap.size W (W.alloc (.cells #[.int .i64 kd, .int .i64 rr, .int .i64 a, .int .i64 c, .slice ra rl rc] 60)) := (Below.refl _ _).alloc (Nat.le_refl _) _
  have H0 := hide (h.below hb0)
  have HT0 := hide (hT.below hb0 hT.lt)
  have HK := hide hk
  have HZ : Hid (∀ m ∈ S.ms, m.by_.size ≤ 1000000) := fun m hm => by have := (hk.msg m hm).2.2; omega
  have HTn := hide (Turn.of_below (lo := 0) (hi := 136) hb0 hlt)
  have HR4 := hide hr4
  have C1 : Hid (Calls Tryz.prog 22 #[.int .i64 rr, .int .i64 3] (W.alloc (.cells #[.int .i64 kd, .int .i64 rr, .int .i64 a, .int .i64 c, .slice ra rl rc] 60)) fun e w' => e = .returned (.int .i64 (pk rr 3 : Nat)) ∧ w' = (W.alloc (.cells #[.int .i64 kd, .int .i64 rr, .int .i64 a, .int .i64 c, .slice ra rl rc] 60))) := pick_any rr 3 _ hr2.1 hr2.2 (by omega) (by omega)
  have C0 : Hid (Calls Tryz.prog 22 #[.int .i64 kd, .int .i64 12] (W.alloc (.cells #[.int .i64 kd, .int .i64 rr, .int .i64 a, .int .i64 c, .slice ra rl rc] 60)) fun e w' => e = .returned (.int .i64 10) ∧ w' = (W.alloc (.cells #[.int .i64 kd, .int .i64 rr, .int .i64 a, .int .i64 c, .slice ra rl rc] 60))) := by
    have h1 := pick_any kd 12 (W.alloc (.cells #[.int .i64 kd, .int .i64 rr, .int .i64 a, .int .i64 c, .slice ra rl rc] 60)) hr1.1 hr1.2 (by omega) (by omega)
    rw [hj] at h1
    exact h1
  have hk3 : pk rr 3 < 3 := pk_lt _ _ (by omega)
  generalize pk rr 3 = k at *
  obtain ⟨sv, lp, hrep⟩ := H0.out.rep k hk3
  have C2 := hide (cCrash_any _ cb k M hk3 _ _ _ c hrep (HK.out.rep k hk3) (by omega) hr4.1 hr4.2)
  clear h hk hT hj hr1 hr2
  go_enter Tryz.func18, Tryz.ntmps18
  go_wp2_with fail
  refine C1.out.mono ?_
  rintro e w1 ⟨rfl, rfl⟩
  go_wp2_with fail
  refine C0.out.mono ?_
  rintro e w1 ⟨rfl, rfl⟩
  clear C1 C0
  go_wp2_with fail
  refine C2.out.mono ?_
  rintro e w3 ⟨sv', lp', rfl, h1, t1⟩
  have HE : Hid (ActEnd W w3 cb S (.returned (.slice none 0 0))) := ActEnd.nil (.crash k c hk3) (H0.out.rep1 hk3 h1 t1) (HTn.out.trans (t1.wider (Nat.zero_le _) (by omega)))
  clear h1 t1 C2
  go_wp2
  all_goals
    go_ret
    exact HE.out
set_option linter.unusedVariables false in
set_option maxRecDepth 100000 in
set_option maxHeartbeats 1000000 in
theorem act11 (W : World) (cb M rl rc : Nat) (ra : Option Addr) (kd rr a c : Int) (S : CS) (h : CluAt W cb S) (hk : CSOk M S) (hM : M ≤ 1000000000) (hT : Tabs W) (hcb : 2 < cb) (hr1 : Rng64 kd) (hr2 : Rng64 rr) (hr3 : Rng64 a) (hr4 : Rng64 c) (hj : pk kd 12 = 11) :
    Calls Tryz.prog 18 #[.pointer (some ⟨cb, 0, none⟩), .agg #[.int .i64 kd, .int .i64 rr, .int .i64 a, .int .i64 c, .slice ra rl rc]] W fun e w' => ActEnd W w' cb S e := by
  have hlt := h.way.lt
  have hb0 : Below W.heap.size W (W.alloc (.cells #[.int .i64 kd, .int .i64 rr, .int .i64 a, .int .i64 c, .slice ra rl rc] 60)) := (Below.refl _ _).alloc (Nat.le_refl _) _
  have H0 := hide (h.below hb0)
  have HT0 := hide (hT.below hb0 hT.lt)
  have HK := hide hk
  have HZ : Hid (∀ m ∈ S.ms, m.by_.size ≤ 1000000) := fun m hm => by have := (hk.msg m hm).2.2; omega
  have HTn := hide (Turn.of_below (lo := 0) (hi := 136) hb0 hlt)
  have HR4 := hide hr4
  have C1 : Hid (Calls Tryz.prog 22 #[.int .i64 rr, .int .i64 3] (W.alloc (.cells #[.int .i64 kd, .int .i64 rr, .int .i64 a, .int .i64 c, .slice ra rl rc] 60)) fun e w' => e = .returned (.int .i64 (pk rr 3 : Nat)) ∧ w' = (W.alloc (.cells #[.int .i64 kd, .int .i64 rr, .int .i64 a, .int .i64 c, .slice ra rl rc] 60))) := pick_any rr 3 _ hr2.1 hr2.2 (by omega) (by omega)
  have C0 : Hid (Calls Tryz.prog 22 #[.int .i64 kd, .int .i64 12] (W.alloc (.cells #[.int .i64 kd, .int .i64 rr, .int .i64 a, .int .i64 c, .slice ra rl rc] 60)) fun e w' => e = .returned (.int .i64 11) ∧ w' = (W.alloc (.cells #[.int .i64 kd, .int .i64 rr, .int .i64 a, .int .i64 c, .slice ra rl rc] 60))) := by
    have h1 := pick_any kd 12 (W.alloc (.cells #[.int .i64 kd, .int .i64 rr, .int .i64 a, .int .i64 c, .slice ra rl rc] 60)) hr1.1 hr1.2 (by omega) (by omega)
    rw [hj] at h1
    exact h1
  have hk3 : pk rr 3 < 3 := pk_lt _ _ (by omega)
  generalize pk rr 3 = k at *
  obtain ⟨sv, lp, hrep⟩ := H0.out.rep k hk3
  have C2 := hide (cRestart_any _ cb k M hk3 _ _ _ hrep (HK.out.rep k hk3).len hM HT0.out hcb)
  clear h hk hT hj hr1 hr2
  go_enter Tryz.func18, Tryz.ntmps18
  go_wp2_with fail
  refine C1.out.mono ?_
  rintro e w1 ⟨rfl, rfl⟩
  go_wp2_with fail
  refine C0.out.mono ?_
  rintro e w1 ⟨rfl, rfl⟩
  clear C1 C0
  go_wp2_with fail
  refine C2.out.mono ?_
  rintro e w3 ⟨n, r', sv', lp', rfl, hro, h1, t1⟩
  have HE : Hid (ActEnd W w3 cb S (.returned (.slice none 0 0))) := ActEnd.nil (.restart k n r' hk3 hro) (H0.out.rep1 hk3 h1 t1) (HTn.out.trans (t1.wider (Nat.zero_le _) (by omega)))
  clear hro h1 t1 C2
  go_wp2
  all_goals
    go_ret
    exact HE.out
set_option linter.unusedVariables false in
set_option maxRecDepth 100000 in
set_option maxHeartbeats 1000000 in
theorem act7 (W : World) (cb M rl rc : Nat) (ra : Option Addr) (kd rr a c : Int) (S : CS) (h : CluAt W cb S) (hk : CSOk M S) (hM : M ≤ 1000000000) (hT : Tabs W) (hcb : 2 < cb) (hr1 : Rng64 kd) (hr2 : Rng64 rr) (hr3 : Rng64 a) (hr4 : Rng64 c) (hj : pk kd 12 = 7) :
    Calls Tryz.prog 18 #[.pointer (some ⟨cb, 0, none⟩), .agg #[.int .i64 kd, .int .i64 rr, .int .i64 a, .int .i64 c, .slice ra rl rc]] W fun e w' => ActEnd W w' cb S e := by
  have hlt := h.way.lt
  have hb0 : Below W.heap.size W (W.alloc (.cells #[.int .i64 kd, .int .i64 rr, .int .i64 a, .int .i64 c, .slice ra rl rc] 60)) := (Below.refl _ _).alloc (Nat.le_refl _) _
  have H0 := hide (h.below hb0)
  have HT0 := hide (hT.below hb0 hT.lt)
  have HK := hide hk
  have HZ : Hid (∀ m ∈ S.ms, m.by_.size ≤ 1000000) := fun m hm => by have := (hk.msg m hm).2.2; omega
  have HTn := hide (Turn.of_below (lo := 0) (hi := 136) hb0 hlt)
  have HR4 := hide hr4
  have C1 : Hid (Calls Tryz.prog 22 #[.int .i64 rr, .int .i64 3] (W.alloc (.cells #[.int .i64 kd, .int .i64 rr, .int .i64 a, .int .i64 c, .slice ra rl rc] 60)) fun e w' => e = .returned (.int .i64 (pk rr 3 : Nat)) ∧ w' = (W.alloc (.cells #[.int .i64 kd, .int .i64 rr, .int .i64 a, .int .i64 c, .slice ra rl rc] 60))) := pick_any rr 3 _ hr2.1 hr2.2 (by omega) (by omega)
  have C0 : Hid (Calls Tryz.prog 22 #[.int .i64 kd, .int .i64 12] (W.alloc (.cells #[.int .i64 kd, .int .i64 rr, .int .i64 a, .int .i64 c, .slice ra rl rc] 60)) fun e w' => e = .returned (.int .i64 7) ∧ w' = (W.alloc (.cells #[.int .i64 kd, .int .i64 rr, .int .i64 a, .int .i64 c, .slice ra rl rc] 60))) := by
    have h1 := pick_any kd 12 (W.alloc (.cells #[.int .i64 kd, .int .i64 rr, .int .i64 a, .int .i64 c, .slice ra rl rc] 60)) hr1.1 hr1.2 (by omega) (by omega)
    rw [hj] at h1
    exact h1
  have hk3 : pk rr 3 < 3 := pk_lt _ _ (by omega)
  generalize pk rr 3 = k at *
  obtain ⟨sv, lp, hrep⟩ := H0.out.rep k hk3
  have CW := hide (kway_any _ cb a S.ms H0.out.way HZ.out hr3.1 hr3.2)
  clear h hk hT hj hr1 hr2
  go_enter Tryz.func18, Tryz.ntmps18
  go_wp2_with fail
  refine C1.out.mono ?_
  rintro e w1 ⟨rfl, rfl⟩
  go_wp2_with fail
  refine C0.out.mono ?_
  rintro e w1 ⟨rfl, rfl⟩
  clear C1 C0
  go_wp2_with fail
  refine CW.out.mono ?_
  rintro e w2 ⟨⟨i, rfl, hi⟩, hb2⟩
  have H2 := hide (H0.out.below hb2)
  have HT2 := hide (HTn.out.trans (Turn.of_below hb2 H0.out.way.lt))
  have HTb := hide (HT0.out.below hb2 HT0.out.lt)
  have C2 := hide (cDrop_any w2 cb i S.ms H2.out.way)
  clear hb2 CW
  go_wp2_with fail
  refine C2.out.mono ?_
  rintro e w3 ⟨n, ms2, rfl, hd, h1, t1⟩
  have HE : Hid (ActEnd W w3 cb S (.returned (.slice none 0 0))) := by
    rcases hd with rfl | ⟨q, rfl⟩
    · exact ActEnd.nil .stay (H2.out.way1 h1 t1) (HT2.out.trans (t1.wider (Nat.zero_le _) (Nat.le_refl _)))
    · exact ActEnd.nil (.drop q) (H2.out.way1 h1 t1) (HT2.out.trans (t1.wider (Nat.zero_le _) (Nat.le_refl _)))
  clear C2
  go_wp2
  all_goals
    go_ret
    exact HE.out
set_option linter.unusedVariables false in
set_option maxRecDepth 100000 in
set_option maxHeartbeats 1000000 in
theorem act8 (W : World) (cb M rl rc : Nat) (ra : Option Addr) (kd rr a c : Int) (S : CS) (h : CluAt W cb S) (hk : CSOk M S) (hM : M ≤ 1000000000) (hT : Tabs W) (hcb : 2 < cb) (hr1 : Rng64 kd) (hr2 : Rng64 rr) (hr3 : Rng64 a) (hr4 : Rng64 c) (hj : pk kd 12 = 8) :
    Calls Tryz.prog 18 #[.pointer (some ⟨cb, 0, none⟩), .agg #[.int .i64 kd, .int .i64 rr, .int .i64 a, .int .i64 c, .slice ra rl rc]] W fun e w' => ActEnd W w' cb S e := by
  have hlt := h.way.lt
  have hb0 : Below W.heap.size W (W.alloc (.cells #[.int .i64 kd, .int .i64 rr, .int .i64 a, .int .i64 c, .slice ra rl rc] 60)) := (Below.refl _ _).alloc (Nat.le_refl _) _
  have H0 := hide (h.below hb0)
  have HT0 := hide (hT.below hb0 hT.lt)
  have HK := hide hk
  have HZ : Hid (∀ m ∈ S.ms, m.by_.size ≤ 1000000) := fun m hm => by have := (hk.msg m hm).2.2; omega
  have HTn := hide (Turn.of_below (lo := 0) (hi := 136) hb0 hlt)
  have HR4 := hide hr4
  have C1 : Hid (Calls Tryz.prog 22 #[.int .i64 rr, .int .i64 3] (W.alloc (.cells #[.int .i64 kd, .int .i64 rr, .int .i64 a, .int .i64 c, .slice ra rl rc] 60)) fun e w' => e = .returned (.int .i64 (pk rr 3 : Nat)) ∧ w' = (W.alloc (.cells #[.int .i64 kd, .int .i64 rr, .int .i64 a, .int .i64 c, .slice ra rl rc] 60))) := pick_any rr 3 _ hr2.1 hr2.2 (by omega) (by omega)
  have C0 : Hid (Calls Tryz.prog 22 #[.int .i64 kd, .int .i64 12] (W.alloc (.cells #[.int .i64 kd, .int .i64 rr, .int .i64 a, .int .i64 c, .slice ra rl rc] 60)) fun e w' => e = .returned (.int .i64 8) ∧ w' = (W.alloc (.cells #[.int .i64 kd, .int .i64 rr, .int .i64 a, .int .i64 c, .slice ra rl rc] 60))) := by
    have h1 := pick_any kd 12 (W.alloc (.cells #[.int .i64 kd, .int .i64 rr, .int .i64 a, .int .i64 c, .slice ra rl rc] 60)) hr1.1 hr1.2 (by omega) (by omega)
    rw [hj] at h1
    exact h1
  have hk3 : pk rr 3 < 3 := pk_lt _ _ (by omega)
  generalize pk rr 3 = k at *
  obtain ⟨sv, lp, hrep⟩ := H0.out.rep k hk3
  have CW := hide (kway_any _ cb a S.ms H0.out.way HZ.out hr3.1 hr3.2)
  clear h hk hT hj hr1 hr2
  go_enter Tryz.func18, Tryz.ntmps18
  go_wp2_with fail
  refine C1.out.mono ?_
  rintro e w1 ⟨rfl, rfl⟩
  go_wp2_with fail
  refine C0.out.mono ?_
  rintro e w1 ⟨rfl, rfl⟩
  clear C1 C0
  go_wp2_with fail
  refine CW.out.mono ?_
  rintro e w2 ⟨⟨i, rfl, hi⟩, hb2⟩
  have H2 := hide (H0.out.below hb2)
  have HT2 := hide (HTn.out.trans (Turn.of_below hb2 H0.out.way.lt))
  have HTb := hide (HT0.out.below hb2 HT0.out.lt)
  have C2 := hide (cTwice_any w2 cb i S.ms H2.out.way)
  clear hb2 CW
  go_wp2_with fail
  refine C2.out.mono ?_
  rintro e w3 ⟨n, ms2, rfl, hd, h1, t1⟩
  have HE : Hid (ActEnd W w3 cb S (.returned (.slice none 0 0))) := by
    rcases hd with ⟨_, rfl, _⟩ | ⟨_, q, m, _, hm, rfl⟩
    · exact ActEnd.nil .stay (H2.out.way1 h1 t1) (HT2.out.trans (t1.wider (Nat.zero_le _) (Nat.le_refl _)))
    · exact ActEnd.nil (.twice q m hm) (H2.out.way1 h1 t1) (HT2.out.trans (t1.wider (Nat.zero_le _) (Nat.le_refl _)))
  clear C2
  go_wp2
  all_goals
    go_ret
    exact HE.out
set_option linter.unusedVariables false in
set_option maxRecDepth 100000 in
set_option maxHeartbeats 1000000 in
theorem act5 (W : World) (cb M rl rc : Nat) (ra : Option Addr) (kd rr a c : Int) (S : CS) (h : CluAt W cb S) (hk : CSOk M S) (hM : M ≤ 1000000000) (hT : Tabs W) (hcb : 2 < cb) (hr1 : Rng64 kd) (hr2 : Rng64 rr) (hr3 : Rng64 a) (hr4 : Rng64 c) (hj : pk kd 12 = 5) :
    Calls Tryz.prog 18 #[.pointer (some ⟨cb, 0, none⟩), .agg #[.int .i64 kd, .int .i64 rr, .int .i64 a, .int .i64 c, .slice ra rl rc]] W fun e w' => ActEnd W w' cb S e := by
  have hlt := h.way.lt
  have hb0 : Below W.heap.size W (W.alloc (.cells #[.int .i64 kd, .int .i64 rr, .int .i64 a, .int .i64 c, .slice ra rl rc] 60)) := (Below.refl _ _).alloc (Nat.le_refl _) _
  have H0 := hide (h.below hb0)
  have HT0 := hide (hT.below hb0 hT.lt)
  have HK := hide hk
  have HZ : Hid (∀ m ∈ S.ms, m.by_.size ≤ 1000000) := fun m hm => by have := (hk.msg m hm).2.2; omega
  have HTn := hide (Turn.of_below (lo := 0) (hi := 136) hb0 hlt)
  have HR4 := hide hr4
  have C1 : Hid (Calls Tryz.prog 22 #[.int .i64 rr, .int .i64 3] (W.alloc (.cells #[.int .i64 kd, .int .i64 rr, .int .i64 a, .int .i64 c, .slice ra rl rc] 60)) fun e w' => e = .returned (.int .i64 (pk rr 3 : Nat)) ∧ w' = (W.alloc (.cells #[.int .i64 kd, .int .i64 rr, .int .i64 a, .int .i64 c, .slice ra rl rc] 60))) := pick_any rr 3 _ hr2.1 hr2.2 (by omega) (by omega)
  have C0 : Hid (Calls Tryz.prog 22 #[.int .i64 kd, .int .i64 12] (W.alloc (.cells #[.int .i64 kd, .int .i64 rr, .int .i64 a, .int .i64 c, .slice ra rl rc] 60)) fun e w' => e = .returned (.int .i64 5) ∧ w' = (W.alloc (.cells #[.int .i64 kd, .int .i64 rr, .int .i64 a, .int .i64 c, .slice ra rl rc] 60))) := by
    have h1 := pick_any kd 12 (W.alloc (.cells #[.int .i64 kd, .int .i64 rr, .int .i64 a, .int .i64 c, .slice ra rl rc] 60)) hr1.1 hr1.2 (by omega) (by omega)
    rw [hj] at h1
    exact h1
  have hk3 : pk rr 3 < 3 := pk_lt _ _ (by omega)
  generalize pk rr 3 = k at *
  obtain ⟨sv, lp, hrep⟩ := H0.out.rep k hk3
  have CW := hide (kway_any _ cb a S.ms H0.out.way HZ.out hr3.1 hr3.2)
  clear h hk hT hj hr1 hr2
  go_enter Tryz.func18, Tryz.ntmps18
  go_wp2_with fail
  refine C1.out.mono ?_
  rintro e w1 ⟨rfl, rfl⟩
  go_wp2_with fail
  refine C0.out.mono ?_
  rintro e w1 ⟨rfl, rfl⟩
  clear C1 C0
  go_wp2_with fail
  refine CW.out.mono ?_
  rintro e w2 ⟨⟨i, rfl, hi⟩, hb2⟩
  have H2 := hide (H0.out.below hb2)
  have HT2 := hide (HTn.out.trans (Turn.of_below hb2 H0.out.way.lt))
  have HTb := hide (HT0.out.below hb2 HT0.out.lt)
  have C2 := hide (cDeliver_any w2 cb M i S H2.out HK.out (by omega) HTb.out hcb)
  clear hb2 CW
  go_wp2_with fail
  refine C2.out.mono ?_
  rintro e w3 ⟨n, S2, rfl, hd, h1, t1⟩
  have HE : Hid (ActEnd W w3 cb S (.returned (.slice none 0 0))) := by
    exact ActEnd.nil (.deliver _ n S2 hd) h1 (HT2.out.trans t1)
  clear C2
  go_wp2
  all_goals
    go_ret
    exact HE.out
set_option linter.unusedVariables false in
set_option maxRecDepth 100000 in
set_option maxHeartbeats 1000000 in
theorem act6 (W : World) (cb M rl rc : Nat) (ra : Option Addr) (kd rr a c : Int) (S : CS) (h : CluAt W cb S) (hk : CSOk M S) (hM : M ≤ 1000000000) (hT : Tabs W) (hcb : 2 < cb) (hr1 : Rng64 kd) (hr2 : Rng64 rr) (hr3 : Rng64 a) (hr4 : Rng64 c) (hj : pk kd 12 = 6) :
    Calls Tryz.prog 18 #[.pointer (some ⟨cb, 0, none⟩), .agg #[.int .i64 kd, .int .i64 rr, .int .i64 a, .int .i64 c, .slice ra rl rc]] W fun e w' => ActEnd W w' cb S e := by
  have hlt := h.way.lt
  have hb0 : Below W.heap.size W (W.alloc (.cells #[.int .i64 kd, .int .i64 rr, .int .i64 a, .int .i64 c, .slice ra rl rc] 60)) := (Below.refl _ _).alloc (Nat.le_refl _) _
  have H0 := hide (h.below hb0)
  have HT0 := hide (hT.below hb0 hT.lt)
  have HK := hide hk
  have HZ : Hid (∀ m ∈ S.ms, m.by_.size ≤ 1000000) := fun m hm => by have := (hk.msg m hm).2.2; omega
  have HTn := hide (Turn.of_below (lo := 0) (hi := 136) hb0 hlt)
  have HR4 := hide hr4
  have C1 : Hid (Calls Tryz.prog 22 #[.int .i64 rr, .int .i64 3] (W.alloc (.cells #[.int .i64 kd, .int .i64 rr, .int .i64 a, .int .i64 c, .slice ra rl rc] 60)) fun e w' => e = .returned (.int .i64 (pk rr 3 : Nat)) ∧ w' = (W.alloc (.cells #[.int .i64 kd, .int .i64 rr, .int .i64 a, .int .i64 c, .slice ra rl rc] 60))) := pick_any rr 3 _ hr2.1 hr2.2 (by omega) (by omega)
  have C0 : Hid (Calls Tryz.prog 22 #[.int .i64 kd, .int .i64 12] (W.alloc (.cells #[.int .i64 kd, .int .i64 rr, .int .i64 a, .int .i64 c, .slice ra rl rc] 60)) fun e w' => e = .returned (.int .i64 6) ∧ w' = (W.alloc (.cells #[.int .i64 kd, .int .i64 rr, .int .i64 a, .int .i64 c, .slice ra rl rc] 60))) := by
    have h1 := pick_any kd 12 (W.alloc (.cells #[.int .i64 kd, .int .i64 rr, .int .i64 a, .int .i64 c, .slice ra rl rc] 60)) hr1.1 hr1.2 (by omega) (by omega)
    rw [hj] at h1
    exact h1
  have hk3 : pk rr 3 < 3 := pk_lt _ _ (by omega)
  generalize pk rr 3 = k at *
  obtain ⟨sv, lp, hrep⟩ := H0.out.rep k hk3
  have CW := hide (kway_any _ cb a S.ms H0.out.way HZ.out hr3.1 hr3.2)
  clear h hk hT hj hr1 hr2
  go_enter Tryz.func18, Tryz.ntmps18
  go_wp2_with fail
  refine C1.out.mono ?_
  rintro e w1 ⟨rfl, rfl⟩
  go_wp2_with fail
  refine C0.out.mono ?_
  rintro e w1 ⟨rfl, rfl⟩
  clear C1 C0
  go_wp2_with fail
  refine CW.out.mono ?_
  rintro e w2 ⟨⟨i, rfl, hi⟩, hb2⟩
  have H2 := hide (H0.out.below hb2)
  have HT2 := hide (HTn.out.trans (Turn.of_below hb2 H0.out.way.lt))
  have HTb := hide (HT0.out.below hb2 HT0.out.lt)
  have C2 := hide (cDeliver_any w2 cb M i S H2.out HK.out (by omega) HTb.out hcb)
  clear hb2 CW
  go_wp2_with fail
  refine C2.out.mono ?_
  rintro e w3 ⟨n, S2, rfl, hd, h1, t1⟩
  have HE : Hid (ActEnd W w3 cb S (.returned (.slice none 0 0))) := by
    exact ActEnd.nil (.deliver _ n S2 hd) h1 (HT2.out.trans t1)
  clear C2
  go_wp2
  all_goals
    go_ret
    exact HE.out
end Go.Proofs.YtamcclcbmenjdaaGreatDoor

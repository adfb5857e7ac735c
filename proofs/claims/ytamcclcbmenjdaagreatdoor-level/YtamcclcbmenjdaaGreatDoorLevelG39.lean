/- 'choirkeep.Level', for any list of steps (100 of them are done): when all are up, nothing is under way, and each has told each other one, all have the same, and compacted logs are the same bytes. The first form's statement and its card: no condition beside the row's own. -/
import Derived.Test.YtamcclcbmenjdaaGreatDoorLevelG38
/- The cluster whole: Push, Deliver. -/
namespace Go.Proofs.YtamcclcbmenjdaaGreatDoor
open Go.RowKit Go.Lib

/-- What a cluster is. -/
structure CS where
  r : Nat → RS
  ms : List Msg
structure CluAt (w : World) (cb : Nat) (S : CS) : Prop where
  rep : ∀ k, k < 3 → ∃ sv lp, RepAt w cb (k * 5) (S.r k) sv lp
  way : WayAt w cb S.ms
def CS.put (S : CS) (k : Nat) (r' : RS) : CS := ⟨fun j => if j = k then r' else S.r j, S.ms⟩
theorem CluAt.rep1 {W w' : World} {cb k : Nat} {S : CS} {r' : RS} {sv lp : Value} (h : CluAt W cb S) (hk : k < 3) (hr : RepAt w' cb (k * 5) r' sv lp) (ht : Turn W w' cb (k * 5) (k * 5 + 5)) : CluAt w' cb (S.put k r') := by
  refine ⟨fun j hj => ?_, h.way.other ht (by omega)⟩
  by_cases e : j = k
  · subst e
    refine ⟨sv, lp, ?_⟩
    show RepAt w' cb (j * 5) (if j = j then r' else S.r j) sv lp
    rw [if_pos rfl]; exact hr
  · obtain ⟨sv2, lp2, h2⟩ := h.rep j hj
    refine ⟨sv2, lp2, ?_⟩
    show RepAt w' cb (j * 5) (if j = k then r' else S.r j) sv2 lp2
    rw [if_neg e]; exact h2.other ht (by omega)
theorem CluAt.way1 {W w' : World} {cb : Nat} {S : CS} {ms' : List Msg} (h : CluAt W cb S) (hw : WayAt w' cb ms') (ht : Turn W w' cb 15 136) : CluAt w' cb ⟨S.r, ms'⟩ :=
  ⟨fun j hj => by obtain ⟨sv, lp, h2⟩ := h.rep j hj; exact ⟨sv, lp, h2.other ht (by omega)⟩, hw⟩
theorem CluAt.below {W w' : World} {cb : Nat} {S : CS} (h : CluAt W cb S) (hb : Below W.heap.size W w') : CluAt w' cb S :=
  ⟨fun j hj => by obtain ⟨sv, lp, h2⟩ := h.rep j hj; exact ⟨sv, lp, h2.below hb⟩, h.way.below hb⟩
structure CSOk (M : Nat) (S : CS) : Prop where
  rep : ∀ k, k < 3 → RepOk M (S.r k)
  msg : ∀ m ∈ S.ms, m.fr < 3 ∧ m.to < 3 ∧ m.by_.size ≤ 60011

def PushEnd (W w' : World) (cb k t : Nat) (r : RS) (ms : List Msg) (e : Ending) : Prop := ∃ ms', e = .returned (.int .i64 (if r.up then 0 else 5)) ∧ ms' = (if r.up then pushed ms ⟨k, t, frB r.bs, 0⟩ else ms) ∧ WayAt w' cb ms' ∧ Turn W w' cb 15 136
set_option maxRecDepth 100000 in
set_option maxHeartbeats 1000000 in
theorem cPush_any (W : World) (cb k t M : Nat) (hk3 : k < 3) (ht3 : t < 3) (hkt : t ≠ k) (r : RS) (sv lp : Value) (ms : List Msg) (h : RepAt W cb (k * 5) r sv lp) (hk : RepOk M r) (hw : WayAt W cb ms) (hT : Tabs W) :
    Calls Tryz.prog 30 #[.pointer (some ⟨cb, 0, none⟩), .int .i64 k, .int .i64 t] W fun e w' => PushEnd W w' cb k t r ms e := by
  have C := hide (running_any W cb k hk3 r sv lp h)
  have C2 := hide (isReplica_any W t ht3)
  have hlt := h.lt
  have H := hide h
  have HK := hide hk
  have HW := hide hw
  have HT := hide hT
  have hnti : ¬ ((t : Int) = (k : Int)) := by omega
  have hntb : ((t : Int) == (k : Int)) = false := by simpa using hnti
  clear h hk hw hT
  cases hu : r.up with
  | true =>
    have HU := hide hu
    rw [hu] at C
    clear hu
    go_enter Tryz.func30, Tryz.ntmps30
    go_wp2_with fail
    refine C.out.mono ?_
    rintro e w1 ⟨rfl, rfl⟩
    go_wp2_with fail
    refine C2.out.mono ?_
    rintro e w1 ⟨rfl, rfl⟩
    clear C C2
    go_wp2_with fail
    have CF : Hid (Calls Tryz.prog 70 #[.pointer (some ⟨cb, k * 5, none⟩)] W.drew fun e w' => e = .returned (.string (frB r.bs)) ∧ Below W.heap.size W w') := (rFrame_any W.drew cb (k * 5) M r sv lp (H.out.below (Below.refl _ _).drew) HK.out HT.out.drew).mono fun e w' h => ⟨h.1, (Below.refl W.heap.size W).drew.trans h.2⟩
    refine region_anyL (S := fun _ => True) 8 (by kernel_rfl) trivial (fun hS => ?_)
    refine anyL_take 0 (oi := ?zo0) (v := ?zv0) ?zhi0 (by kernel_rfl) (by kernel_rfl) (by kernel_rfl) (by kernel_rfl) (by kernel_rfl) (by kernel_rfl) ?zq0 (Or.inl ⟨?zwa0, ?zy0⟩) hS ?zrest0
    case zhi0 => simp only [List.getElem?_toArray, List.getElem?_cons_zero]; rfl
    case zwa0 => rfl
    case zy0 => intro wz hz; go_simp <;> rfl
    case zq0 => exact fun _ _ _ h => h
    simp only [Act.put, List.setIfInBounds_toArray, List.set_cons_zero, List.set_cons_succ]
    refine anyL_take 1 (oi := ?zo1) (v := ?zv1) ?zhi1 (by kernel_rfl) (by kernel_rfl) (by kernel_rfl) (by kernel_rfl) (by kernel_rfl) (by kernel_rfl) ?zq1 (Or.inl ⟨?zwa1, ?zy1⟩) hS ?zrest1
    case zhi1 => simp only [List.getElem?_toArray, List.getElem?_cons_zero, List.getElem?_cons_succ]; rfl
    case zwa1 => rfl
    case zy1 => intro wz hz; go_simp <;> rfl
    case zq1 => exact fun _ _ _ h => h
    simp only [Act.put, List.setIfInBounds_toArray, List.set_cons_zero, List.set_cons_succ]
    refine anyL_take 2 (oi := ?zo2) (v := ?zv2) ?zhi2 (by kernel_rfl) (by kernel_rfl) (by kernel_rfl) (by kernel_rfl) (by kernel_rfl) (by kernel_rfl) ?zq2 (Or.inl ⟨?zwa2, ?zy2⟩) hS ?zrest2
    case zhi2 => simp only [List.getElem?_toArray, List.getElem?_cons_zero, List.getElem?_cons_succ]; rfl
    case zwa2 => rfl
    case zy2 => intro wz hz; go_simp <;> rfl
    case zq2 => exact fun _ _ _ h => h
    simp only [Act.put, List.setIfInBounds_toArray, List.set_cons_zero, List.set_cons_succ]
    refine anyL_take 3 (oi := ?zo3) (v := ?zv3) ?zhi3 (by kernel_rfl) (by kernel_rfl) (by kernel_rfl) (by kernel_rfl) (by kernel_rfl) (by kernel_rfl) ?zq3 (Or.inl ⟨?zwa3, ?zy3⟩) hS ?zrest3
    case zhi3 => simp only [List.getElem?_toArray, List.getElem?_cons_zero, List.getElem?_cons_succ]; rfl
    case zwa3 => rfl
    case zy3 => intro wz hz; go_simp <;> rfl
    case zq3 => exact fun _ _ _ h => h
    simp only [Act.put, List.setIfInBounds_toArray, List.set_cons_zero, List.set_cons_succ]
    refine anyL_take 4 (oi := ?zo4) (v := ?zv4) ?zhi4 (by kernel_rfl) (by kernel_rfl) (by kernel_rfl) (by kernel_rfl) (by kernel_rfl) (by kernel_rfl) ?zq4 (Or.inl ⟨?zwa4, ?zy4⟩) hS ?zrest4
    case zhi4 => simp only [List.getElem?_toArray, List.getElem?_cons_zero, List.getElem?_cons_succ]; rfl
    case zwa4 => rfl
    case zy4 => intro wz hz; go_simp <;> rfl
    case zq4 => exact fun _ _ _ h => h
    simp only [Act.put, List.setIfInBounds_toArray, List.set_cons_zero, List.set_cons_succ]
    refine anyL_take 5 (oi := ?zo5) (v := ?zv5) ?zhi5 (by kernel_rfl) (by kernel_rfl) (by kernel_rfl) (by kernel_rfl) (by kernel_rfl) (by kernel_rfl) ?zq5 (Or.inl ⟨?zwa5, ?zy5⟩) hS ?zrest5
    case zhi5 => simp only [List.getElem?_toArray, List.getElem?_cons_zero, List.getElem?_cons_succ]; rfl
    case zwa5 => rfl
    case zy5 => intro wz hz; go_simp <;> rfl
    case zq5 => exact fun _ _ _ h => h
    simp only [Act.put, List.setIfInBounds_toArray, List.set_cons_zero, List.set_cons_succ]
    refine anyL_one 6 (o := ?zo6) (by kernel_rfl) ?zhi6 (by kernel_rfl) ?zst6
    case zhi6 => simp only [List.getElem?_toArray, List.getElem?_cons_zero, List.getElem?_cons_succ]; rfl
    intro K hK
    go_simp
    refine CF.out.mono ?_
    rintro e5 w5 ⟨rfl, hb5⟩
    have H5 := hide (HW.out.below hb5)
    have HT5 := hide (Turn.of_below (lo := 15) (hi := 136) hb5 hlt)
    have CP := hide (Put_way w5 cb k t (frB r.bs) ms H5.out)
    refine hK.out _ _ trivial (fun hS2 => ?_)
    clear hK K hS CF hb5
    refine anyL_take 7 (oi := ?zo7) (v := ?zv7) ?zhi7 (by kernel_rfl) (by kernel_rfl) (by kernel_rfl) (by kernel_rfl) (by kernel_rfl) (by kernel_rfl) ?zq7 (Or.inl ⟨?zwa7, ?zy7⟩) hS2 ?zrest7
    case zhi7 => simp only [List.getElem?_toArray, List.getElem?_cons_zero, List.getElem?_cons_succ]; rfl
    case zwa7 => rfl
    case zy7 => intro wz hz; go_simp <;> rfl
    case zq7 => exact fun _ _ _ h => h
    simp only [Act.put, List.setIfInBounds_toArray, List.set_cons_zero, List.set_cons_succ]
    refine anyL_last 8 (o := ?zo8) (by kernel_rfl) ?zhi8 (by kernel_rfl) (by kernel_rfl) ?zst8
    case zhi8 => simp only [List.getElem?_toArray, List.getElem?_cons_zero, List.getElem?_cons_succ]; rfl
    intro K hK
    go_simp
    refine CP.out.mono ?_
    rintro e6 w6 ⟨rfl, hw6, ht6⟩
    refine hK.out _ _ ?_
    have HE : Hid (PushEnd W w6 cb k t r ms (.returned (.int .i64 0))) := ⟨_, by rw [HU.out]; rfl, rfl, by rw [HU.out]; exact hw6, HT5.out.trans ht6⟩
    clear hK K hS2 hw6 ht6 CP
    go_wp2
    go_ret
    exact HE.out
  | false =>
    have HU := hide hu
    rw [hu] at C
    clear hu
    go_enter Tryz.func30, Tryz.ntmps30
    go_wp2_with fail
    refine C.out.mono ?_
    rintro e w1 ⟨rfl, rfl⟩
    go_wp2
    go_ret
    exact ⟨_, by rw [HU.out]; rfl, rfl, by rw [HU.out]; exact HW.out, Turn.refl _ _ _ _⟩

/-- What Deliver makes. -/
def DelivOf (S : CS) (i : Int) (n : Nat) (S' : CS) : Prop := (n = 7 ∧ S' = S ∧ ¬ (0 ≤ i ∧ i < S.ms.length)) ∨ (n = 0 ∧ ∃ k m r', i = (k : Nat) ∧ S.ms[k]? = some m ∧ RecvOf (S.r m.to) m.by_ r' ∧ S' = (CS.mk S.r (S.ms.eraseIdx k)).put m.to r')
def DelivEnd (W w' : World) (cb : Nat) (S : CS) (i : Int) (e : Ending) : Prop := ∃ n S', e = .returned (.int .i64 (n : Nat)) ∧ DelivOf S i n S' ∧ CluAt w' cb S' ∧ Turn W w' cb 0 136
set_option maxRecDepth 100000 in
set_option maxHeartbeats 1000000 in
theorem cDeliver_any (W : World) (cb M : Nat) (i : Int) (S : CS) (h : CluAt W cb S) (hk : CSOk M S) (hM : M ≤ 4611686018000000000) (hT : Tabs W) (hcb : 2 < cb) :
    Calls Tryz.prog 31 #[.pointer (some ⟨cb, 0, none⟩), .int .i64 i] W fun e w' => DelivEnd W w' cb S i e := by
  have C := hide (ctake_any W cb i S.ms h.way)
  have hlt := h.way.lt
  have H := hide h
  have HK := hide hk
  have HT := hide hT
  have hlT := hT.lt
  clear h hk hT
  go_enter Tryz.func31, Tryz.ntmps31
  go_wp2_with fail
  refine C.out.mono ?_
  rintro e w1 ⟨n, ms', fr, to, b, rfl, hr, hw1, ht1⟩
  rcases hr with ⟨rfl, rfl, hni⟩ | ⟨rfl, k, m, rfl, hm, rfl, rfl, rfl, rfl⟩
  · have HEnd : Hid (∀ w', Below w1.heap.size w1 w' → DelivEnd W w' cb S i (.returned (.int .i64 7))) := fun w' hb => ⟨7, S, rfl, .inl ⟨rfl, rfl, hni⟩, (H.out.way1 hw1 ht1).below hb, (ht1.wider (Nat.zero_le _) (Nat.le_refl _)).trans (Turn.of_below hb hw1.lt)⟩
    clear hw1 ht1 C hni
    go_wp2
    go_ret
    exact HEnd.out _ (by first | exact (Below.refl _ _).alloc (Nat.le_refl _) _ | exact Below.refl _ _)
  · have hmk := HK.out.msg m (List.mem_of_getElem? hm)
    obtain ⟨hm1, hm2, hm3⟩ := hmk
    have hb2 : Below w1.heap.size w1 (w1.alloc (.cells #[.int .i64 m.fr, .int .i64 m.to, .string m.by_] 99)) := (Below.refl _ _).alloc (Nat.le_refl _) _
    have H2 := hide ((H.out.way1 hw1 ht1).below hb2)
    have HTn := hide ((ht1.wider (lo' := 0) (Nat.zero_le _) (Nat.le_refl _)).trans (Turn.of_below hb2 hw1.lt))
    have hT2 : Tabs (w1.alloc (.cells #[.int .i64 m.fr, .int .i64 m.to, .string m.by_] 99)) := HT.out.kept (HTn.out.block _ (by omega) (by omega)) (HTn.out.block _ (by omega) (by omega))
    obtain ⟨sv, lp, hrep⟩ := H2.out.rep m.to hm2
    have x1 : (w1.alloc (.cells #[.int .i64 m.fr, .int .i64 m.to, .string m.by_] 99)).cell? ⟨w1.heap.size, 1, none⟩ = some (.int .i64 m.to) := World.cell?_alloc_new _ _ _ 1
    have x2 : (w1.alloc (.cells #[.int .i64 m.fr, .int .i64 m.to, .string m.by_] 99)).cell? ⟨w1.heap.size, 2, none⟩ = some (.string m.by_) := World.cell?_alloc_new _ _ _ 2
    have HM := hide hm
    clear hw1 ht1 C hm
    go_wp2_with fail
    generalize w1.alloc (.cells #[.int .i64 m.fr, .int .i64 m.to, .string m.by_] 99) = W2 at *
    have CR := hide (receive_any W2.drew cb (m.to * 5) M (S.r m.to) sv lp m.by_ (hrep.below (Below.refl _ _).drew) (HK.out.rep m.to hm2) hM (by omega) hT2.drew hcb)
    have hti : (m.to : Int) < 3 := by omega
    refine region_anyL (S := fun w' => w'.cell? ⟨w1.heap.size, 1, none⟩ = some (.int .i64 m.to) ∧ w'.cell? ⟨w1.heap.size, 2, none⟩ = some (.string m.by_)) 8 (by kernel_rfl) ⟨x1, x2⟩ (fun hS => ?_)
    refine anyL_take 0 (oi := ?zo0) (v := ?zv0) ?zhi0 (by kernel_rfl) (by kernel_rfl) (by kernel_rfl) (by kernel_rfl) (by kernel_rfl) (by kernel_rfl) ?zq0 (Or.inl ⟨?zwa0, ?zy0⟩) hS ?zrest0
    case zhi0 => simp only [List.getElem?_toArray, List.getElem?_cons_zero]; rfl
    case zwa0 => rfl
    case zy0 => intro wz hz; obtain ⟨z1, z2⟩ := hz; go_simp <;> rfl
    case zq0 => exact fun _ _ _ h => h
    simp only [Act.put, List.setIfInBounds_toArray, List.set_cons_zero, List.set_cons_succ]
    refine anyL_take 1 (oi := ?zo1) (v := ?zv1) ?zhi1 (by kernel_rfl) (by kernel_rfl) (by kernel_rfl) (by kernel_rfl) (by kernel_rfl) (by kernel_rfl) ?zq1 (Or.inl ⟨?zwa1, ?zy1⟩) hS ?zrest1
    case zhi1 => simp only [List.getElem?_toArray, List.getElem?_cons_zero, List.getElem?_cons_succ]; rfl
    case zwa1 => rfl
    case zy1 => intro wz hz; obtain ⟨z1, z2⟩ := hz; go_simp <;> rfl
    case zq1 => exact fun _ _ _ h => h
    simp only [Act.put, List.setIfInBounds_toArray, List.set_cons_zero, List.set_cons_succ]
    refine anyL_take 2 (oi := ?zo2) (v := ?zv2) ?zhi2 (by kernel_rfl) (by kernel_rfl) (by kernel_rfl) (by kernel_rfl) (by kernel_rfl) (by kernel_rfl) ?zq2 (Or.inl ⟨?zwa2, ?zy2⟩) hS ?zrest2
    case zhi2 => simp only [List.getElem?_toArray, List.getElem?_cons_zero, List.getElem?_cons_succ]; rfl
    case zwa2 => rfl
    case zy2 => intro wz hz; obtain ⟨z1, z2⟩ := hz; go_simp <;> rfl
    case zq2 => exact fun _ _ _ h => h
    simp only [Act.put, List.setIfInBounds_toArray, List.set_cons_zero, List.set_cons_succ]
    refine anyL_take 3 (oi := ?zo3) (v := ?zv3) ?zhi3 (by kernel_rfl) (by kernel_rfl) (by kernel_rfl) (by kernel_rfl) (by kernel_rfl) (by kernel_rfl) ?zq3 (Or.inl ⟨?zwa3, ?zy3⟩) hS ?zrest3
    case zhi3 => simp only [List.getElem?_toArray, List.getElem?_cons_zero, List.getElem?_cons_succ]; rfl
    case zwa3 => rfl
    case zy3 => intro wz hz; obtain ⟨z1, z2⟩ := hz; go_simp <;> rfl
    case zq3 => exact fun _ _ _ h => h
    simp only [Act.put, List.setIfInBounds_toArray, List.set_cons_zero, List.set_cons_succ]
    refine anyL_take 4 (oi := ?zo4) (v := ?zv4) ?zhi4 (by kernel_rfl) (by kernel_rfl) (by kernel_rfl) (by kernel_rfl) (by kernel_rfl) (by kernel_rfl) ?zq4 (Or.inl ⟨?zwa4, ?zy4⟩) hS ?zrest4
    case zhi4 => simp only [List.getElem?_toArray, List.getElem?_cons_zero, List.getElem?_cons_succ]; rfl
    case zwa4 => rfl
    case zy4 => intro wz hz; obtain ⟨z1, z2⟩ := hz; go_simp <;> rfl
    case zq4 => exact fun _ _ _ h => h
    simp only [Act.put, List.setIfInBounds_toArray, List.set_cons_zero, List.set_cons_succ]
    refine anyL_take 5 (oi := ?zo5) (v := ?zv5) ?zhi5 (by kernel_rfl) (by kernel_rfl) (by kernel_rfl) (by kernel_rfl) (by kernel_rfl) (by kernel_rfl) ?zq5 (Or.inl ⟨?zwa5, ?zy5⟩) hS ?zrest5
    case zhi5 => simp only [List.getElem?_toArray, List.getElem?_cons_zero, List.getElem?_cons_succ]; rfl
    case zwa5 => rfl
    case zy5 => intro wz hz; obtain ⟨z1, z2⟩ := hz; go_simp <;> rfl
    case zq5 => exact fun _ _ _ h => h
    simp only [Act.put, List.setIfInBounds_toArray, List.set_cons_zero, List.set_cons_succ]
    refine anyL_take 6 (oi := ?zo6) (v := ?zv6) ?zhi6 (by kernel_rfl) (by kernel_rfl) (by kernel_rfl) (by kernel_rfl) (by kernel_rfl) (by kernel_rfl) ?zq6 (Or.inl ⟨?zwa6, ?zy6⟩) hS ?zrest6
    case zhi6 => simp only [List.getElem?_toArray, List.getElem?_cons_zero, List.getElem?_cons_succ]; rfl
    case zwa6 => rfl
    case zy6 => intro wz hz; obtain ⟨z1, z2⟩ := hz; go_simp <;> rfl
    case zq6 => exact fun _ _ _ h => h
    simp only [Act.put, List.setIfInBounds_toArray, List.set_cons_zero, List.set_cons_succ]
    refine anyL_take 7 (oi := ?zo7) (v := ?zv7) ?zhi7 (by kernel_rfl) (by kernel_rfl) (by kernel_rfl) (by kernel_rfl) (by kernel_rfl) (by kernel_rfl) ?zq7 (Or.inl ⟨?zwa7, ?zy7⟩) hS ?zrest7
    case zhi7 => simp only [List.getElem?_toArray, List.getElem?_cons_zero, List.getElem?_cons_succ]; rfl
    case zwa7 => rfl
    case zy7 => intro wz hz; obtain ⟨z1, z2⟩ := hz; go_simp <;> rfl
    case zq7 => exact fun _ _ _ h => h
    simp only [Act.put, List.setIfInBounds_toArray, List.set_cons_zero, List.set_cons_succ]
    refine anyL_last 8 (o := ?zo8) (by kernel_rfl) ?zhi8 (by kernel_rfl) (by kernel_rfl) ?zst8
    case zhi8 => simp only [List.getElem?_toArray, List.getElem?_cons_zero, List.getElem?_cons_succ]; rfl
    intro K hK
    go_simp
    refine CR.out.mono ?_
    rintro e6 w6 ⟨r', sv', lp', rfl, hro, hr6, ht6⟩
    refine hK.out _ _ ?_
    have HE : Hid (DelivEnd W w6 cb S k (.returned (.int .i64 0))) := ⟨0, _, rfl, .inr ⟨rfl, k, m, r', rfl, HM.out, hro, rfl⟩, (H2.out.below (Below.refl _ _).drew).rep1 hm2 hr6 ht6, (HTn.out.drewN 1).trans (ht6.wider (Nat.zero_le _) (by omega))⟩
    clear hK K hS hro hr6 ht6 CR
    go_wp2
    go_ret
    exact HE.out
end Go.Proofs.YtamcclcbmenjdaaGreatDoor

/- choirkeep's way and has; a cluster anew. -/
namespace Go.Proofs.YtamcclcbmenjdaaGreatDoor
open Go.RowKit Go.Lib

set_option maxHeartbeats 400000 in
theorem kway_any (W : World) (cb : Nat) (c : Int) (ms : List Msg) (h : WayAt W cb ms) (hz : ∀ m ∈ ms, m.by_.size ≤ 1000000) (h1 : -9223372036854775808 ≤ c) (h2 : c ≤ 9223372036854775807) :
    Calls Tryz.prog 55 #[.pointer (some ⟨cb, 0, none⟩), .int .i64 c] W fun e w' => (∃ i : Nat, e = .returned (.int .i64 i) ∧ i ≤ ms.length) ∧ Below W.heap.size W w' := by
  have C := hide (cMessages_any W cb ms h hz)
  have hn := h.n
  clear h hz
  go_enter Tryz.func55, Tryz.ntmps55
  go_wp2_with fail
  refine C.out.mono ?_
  rintro e w1 ⟨v', rfl, ho, hb⟩
  obtain ⟨a, cc, rfl⟩ := own_shape ho
  have HB := hide hb
  clear ho hb C
  by_cases h0 : ms.length = 0
  · rw [h0]
    go_wp2
    go_ret
    exact ⟨⟨0, rfl, Nat.zero_le _⟩, HB.out⟩
  · have hp : 0 < ms.length := by omega
    have hpi : ¬ ((ms.length : Int) = 0) := by omega
    have C2 := hide (pick_any c ms.length w1 h1 h2 hp (by omega))
    have hlt := pk_lt c ms.length hp
    generalize pk c ms.length = i at *
    go_wp2_with fail
    refine C2.out.mono ?_
    rintro e w2 ⟨rfl, rfl⟩
    clear C2
    go_wp2
    go_ret
    exact ⟨⟨i, rfl, by omega⟩, HB.out⟩
theorem betw_all {l : List (Int × Nat)} (h : ∀ x ∈ l, -9223372036854775808 ≤ x.1 ∧ x.1 ≤ 9223372036854775807) : betw (-9223372036854775808) 9223372036854775807 l = l := by
  unfold betw
  rw [List.filter_eq_self]
  intro x hx
  simp [(h x hx).1, (h x hx).2]
theorem query_all {bs : List Ser} (h : InRange bs) (hn : ∀ s ∈ bs, s.2 ≠ []) : queryOf (-9223372036854775808) 9223372036854775807 bs = bs := by
  unfold queryOf
  induction bs with
  | nil => rfl
  | cons s r ih =>
    have e : betw (-9223372036854775808) 9223372036854775807 s.2 = s.2 := betw_all fun x hx => ⟨(h s (by simp) x hx).1, (h s (by simp) x hx).2.1⟩
    rw [List.filterMap_cons, e, if_neg (hn s (by simp)), ih (fun t ht => h t (by simp [ht])) (fun t ht => hn t (by simp [ht]))]
theorem ok_ne {bs : List Ser} (h : BatchOk bs) : ∀ s ∈ bs, s.2 ≠ [] := fun s hs => by
  obtain ⟨i, hi, e⟩ := List.mem_iff_getElem.1 hs
  exact (h.1 i s hi (by rw [List.getElem?_eq_getElem hi, e])).2.1
/-- What has answers. -/
def HasEnd (W w' : World) (r : RS) (e : Ending) : Prop :=
  ((r.up = false ∧ e = .returned (.tuple #[.slice none 0 0, .bool false])) ∨ (r.up = true ∧ ∃ x c, e = .returned (.tuple #[.slice x r.bs.length c, .bool true]) ∧ Fresh w' W.heap.size (.slice x r.bs.length c) r.bs)) ∧ Below W.heap.size W w'
set_option maxHeartbeats 400000 in
theorem khas_any (W : World) (cb k M : Nat) (hk3 : k < 3) (r : RS) (sv lp : Value) (h : RepAt W cb (k * 5) r sv lp) (hk : RepOk M r) :
    Calls Tryz.prog 19 #[.pointer (some ⟨cb, 0, none⟩), .int .i64 k] W fun e w' => HasEnd W w' r e := by
  have C := hide (cQuery_any W cb k M hk3 r sv lp (-9223372036854775808) 9223372036854775807 h hk)
  have hq := query_all hk.rng (ok_ne hk.ok)
  clear h hk
  go_enter Tryz.func19, Tryz.ntmps19
  go_wp2_with fail
  refine C.out.mono ?_
  rintro e w1 ⟨hr, hb⟩
  rw [hq] at hr
  have HB := hide hb
  clear hb C hq
  rcases hr with ⟨hu, rfl⟩ | ⟨hu, x, c, rfl, hf⟩
  · have HU := hide hu
    clear hu
    go_wp2
    go_ret2
    exact ⟨.inl ⟨HU.out, rfl⟩, HB.out⟩
  · have HU := hide hu
    have HF := hide hf
    clear hu hf
    go_wp2
    go_ret2
    exact ⟨.inr ⟨HU.out, x, c, rfl, HF.out⟩, HB.out⟩
end Go.Proofs.YtamcclcbmenjdaaGreatDoor

/- A cluster anew. -/
namespace Go.Proofs.YtamcclcbmenjdaaGreatDoor
open Go.RowKit Go.Lib

/-- A replica anew. -/
def r0 : RS := ⟨true, [], [], 0⟩
def S0 : CS := ⟨fun _ => r0, []⟩
/-- The cells of a cluster anew. -/
def repZ : List Value := [.int .i64 0, .slice none 0 0, .pointer none, .int .i64 0, .int .i64 0]
def newZ : List Value := repZ ++ repZ ++ repZ ++ flatM (List.replicate 30 ⟨0, 0, .empty, 0⟩) ++ [.int .i64 0]
theorem rep_new {w : World} {cb T : Nat} (h : Blk w cb T newZ) {k : Nat} (hk : k < 3) : RepAt w cb (k * 5) r0 (.slice none 0 0) (.pointer none) := by
  have e : k = 0 ∨ k = 1 ∨ k = 2 := by omega
  rcases e with rfl | rfl | rfl
  · exact ⟨h.cell (i := 0) rfl, h.cell (i := 1) rfl, h.cell (i := 2) rfl, h.cell (i := 3) rfl, h.cell (i := 4) rfl, fun i => h.frozen i, ⟨[], World.ownsRow_nil _ _ _ _, Sers.nil _ _⟩, rfl⟩
  · exact ⟨h.cell (i := 5) rfl, h.cell (i := 6) rfl, h.cell (i := 7) rfl, h.cell (i := 8) rfl, h.cell (i := 9) rfl, fun i => h.frozen i, ⟨[], World.ownsRow_nil _ _ _ _, Sers.nil _ _⟩, rfl⟩
  · exact ⟨h.cell (i := 10) rfl, h.cell (i := 11) rfl, h.cell (i := 12) rfl, h.cell (i := 13) rfl, h.cell (i := 14) rfl, fun i => h.frozen i, ⟨[], World.ownsRow_nil _ _ _ _, Sers.nil _ _⟩, rfl⟩
theorem newZ_len : newZ.length = 136 := by
  unfold newZ
  simp [repZ, flatM_length]
theorem clu_new {w : World} {cb T : Nat} (h : Blk w cb T newZ) : CluAt w cb S0 := by
  refine ⟨fun k hk => ⟨_, _, rep_new h hk⟩, ⟨by simp [S0], h.cell (i := 135) rfl, fun i hi => absurd hi (by simp [S0]), fun j h1 h2 => ?_, fun i => h.frozen i⟩⟩
  exact ⟨_, h.cell (List.getElem?_eq_getElem (by rw [newZ_len]; omega))⟩
set_option maxRecDepth 100000 in
set_option maxHeartbeats 400000 in
theorem new_any (W : World) :
    Calls Tryz.prog 53 #[] W fun e w' => e = .returned (.pointer (some ⟨W.heap.size, 0, none⟩)) ∧ w' = W.alloc (.cells newZ.toArray 126) := by
  go_enter Tryz.func53, Tryz.ntmps53
  go_wp2
  go_ret
  exact ⟨rfl, rfl⟩
end Go.Proofs.YtamcclcbmenjdaaGreatDoor

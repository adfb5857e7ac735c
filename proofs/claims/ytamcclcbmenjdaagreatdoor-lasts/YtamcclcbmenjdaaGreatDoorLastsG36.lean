/- 'choirkeep.Lasts', for any two lists of steps (100 of each are done) and any numbers: what a replica had when it was synced or compacted it has behind any crash and restart, whatever came between; and a second restart changes nothing. The first form's statement and its card: no condition beside the row's own. -/
import Derived.Test.YtamcclcbmenjdaaGreatDoorLastsG35
/- A replica's Compact; the cluster's Compact, Crash, Restart, Log. -/
namespace Go.Proofs.YtamcclcbmenjdaaGreatDoor
open Go.RowKit Go.Lib

/-- The log is emptied. -/
theorem RepAt.empty {w : World} {cb o : Nat} {r : RS} {sv lp : Value} (h : RepAt w cb o r sv lp) : RepAt ((w.setCell ⟨cb, o + 2, none⟩ (.pointer none)).setCell ⟨cb, o + 3, none⟩ (.int .i64 0)) cb o { r with log := [] } sv (.pointer none) := by
  have ht : Turn w ((w.setCell ⟨cb, o + 2, none⟩ (.pointer none)).setCell ⟨cb, o + 3, none⟩ (.int .i64 0)) cb (o + 2) (o + 4) := ((Turn.refl w cb _ _).set _ _ (Nat.le_refl _) (by omega)).set _ _ (by omega) (by omega)
  have e2 : (w.setCell ⟨cb, o + 2, none⟩ (.pointer none)).cell? ⟨cb, o + 2, none⟩ = some (.pointer none) := World.cell?_setCell_same _ _ _ h.c2
  have e3 : (w.setCell ⟨cb, o + 2, none⟩ (.pointer none)).cell? ⟨cb, o + 3, none⟩ = some (.int .i64 (logSize r.log)) := (World.cell?_setCell_other _ _ _ _ (fun e => by have : o + 2 = o + 3 := congrArg Addr.off e; omega)).trans h.c3
  exact ⟨(ht.cells _ (by omega)).trans h.c0, (ht.cells _ (by omega)).trans h.c1, (World.cell?_setCell_other _ _ _ _ (fun e => by have : o + 3 = o + 2 := congrArg Addr.off e; omega)).trans e2, World.cell?_setCell_same _ _ _ e3, (ht.cells _ (by omega)).trans h.c4, fun i => (ht.frozen i).trans (h.fr i), fresh_turn h.ser ht, rfl⟩
/-- What Compact makes of a replica. -/
def compactOf (r : RS) : RS := { r with log := if r.bs = [] then [] else [frB r.bs], la := logSize (if r.bs = [] then [] else [frB r.bs]) }

set_option maxRecDepth 100000 in
set_option maxHeartbeats 1000000 in
theorem compact_any (W : World) (cb o M : Nat) (r : RS) (sv lp : Value) (h : RepAt W cb o r sv lp) (hk : RepOk M r) (hT : Tabs W) (hcb : 2 < cb) :
    Calls Tryz.prog 62 #[.pointer (some ⟨cb, o, none⟩)] W fun e w' => ∃ sv' lp', e = .returned (.tuple #[]) ∧ RepAt w' cb o (compactOf r) sv' lp' ∧ Turn W w' cb o (o + 5) := by
  obtain ⟨sa, sc, rfl⟩ := fresh_shape h.ser
  have hlt := h.lt
  have d2 := h.c2
  have d3 := h.c3
  have g2 := h.fr (o + 2)
  have g3 := h.fr (o + 3)
  have H0 := hide h.empty
  have HTn0 : Hid (Turn W ((W.setCell ⟨cb, o + 2, none⟩ (.pointer none)).setCell ⟨cb, o + 3, none⟩ (.int .i64 0)) cb o (o + 5)) := ((Turn.refl W cb _ _).set _ _ (by omega) (by omega)).set _ _ (by omega) (by omega)
  have c1 := H0.out.c1
  have HK := hide hk
  have hT0 : Tabs ((W.setCell ⟨cb, o + 2, none⟩ (.pointer none)).setCell ⟨cb, o + 3, none⟩ (.int .i64 0)) := hT.kept (HTn0.out.block _ (by omega) (by omega)) (HTn0.out.block _ (by omega) (by omega))
  have HT0 := hide hT0
  clear h hk hT hT0
  have C := hide (sync_any _ cb o _ _ _ H0.out)
  by_cases hn : r.bs = []
  · have HE : Hid (compactOf r = { r with log := [], la := logSize [] }) := hide (by simp [compactOf, hn])
    have hl : r.bs.length = 0 := by rw [hn]; rfl
    simp only [hl] at c1
    rw [hl] at C
    clear hn
    go_enter Tryz.func62, Tryz.ntmps62
    go_wp2_with fail
    refine C.out.mono ?_
    rintro e w1 ⟨rfl, h1, t1⟩
    have H1 := hide h1
    have T1 := hide (HTn0.out.trans t1)
    clear h1 t1 C
    go_wp2
    go_end0
    rw [HE.out]
    exact ⟨_, _, rfl, H1.out, T1.out⟩
  · have HE : Hid (compactOf r = { r with log := [frB r.bs], la := logSize [frB r.bs] }) := hide (by simp [compactOf, hn])
    have hl : 0 < r.bs.length := List.length_pos_iff.2 hn
    have hl2 : (0 : Int) < (r.bs.length : Int) := by omega
    clear hn C
    go_enter Tryz.func62, Tryz.ntmps62
    go_wp2
    have hF : Fits r.bs := fits_of HK.out.ok HK.out.lim
    have hfz : (frB r.bs).size ≤ 60011 := frB_size hF
    have hs0 := HTn0.out.size
    generalize ((W.setCell ⟨cb, o + 2, none⟩ (.pointer none)).setCell ⟨cb, o + 3, none⟩ (.int .i64 0)) = W4 at *
    have CP : Hid (Calls Tryz.prog 70 #[.pointer (some ⟨cb, o, none⟩)] W4.drew fun e w' => e = .returned (.string (frB r.bs)) ∧ Below W4.heap.size W4 w') := by
      refine (rFrame_raw W4.drew cb o _ _ _ (H0.out.below (Below.refl _ _).drew) HK.out.ok HK.out.lim HK.out.rng HT0.out.drew).mono fun e w' h => ⟨h.1, ?_⟩
      exact (Below.refl W4.heap.size W4).drew.trans h.2
    have c2 := H0.out.c2
    have c3 : W4.cell? ⟨cb, o + 3, none⟩ = some (.int .i64 0) := H0.out.c3
    have HC2 := hide c2
    have HC3 := hide c3
    clear hF d2 d3 g2 g3
    generalize frB r.bs = fb at *
    refine region_anyL (S := fun w' => w'.cell? ⟨cb, o + 2, none⟩ = some (.pointer none) ∧ w'.cell? ⟨cb, o + 3, none⟩ = some (.int .i64 0)) 10 (by kernel_rfl) ⟨c2, c3⟩ (fun hS => ?_)
    refine anyL_take 0 (oi := ?zo0) (v := ?zv0) ?zhi0 (by kernel_rfl) (by kernel_rfl) (by kernel_rfl) (by kernel_rfl) (by kernel_rfl) (by kernel_rfl) ?zq0 (Or.inl ⟨?zwa0, ?zy0⟩) hS ?zrest0
    case zhi0 => simp only [List.getElem?_toArray, List.getElem?_cons_zero]; rfl
    case zwa0 => rfl
    case zy0 => intro wz hz; obtain ⟨z1, z2⟩ := hz; go_simp <;> rfl
    case zq0 => exact fun _ _ _ h => h
    simp only [Act.put, List.setIfInBounds_toArray, List.set_cons_zero, List.set_cons_succ]
    refine anyL_take 1 (oi := ?zo1) (v := ?zv1) ?zhi1 (by kernel_rfl) (by kernel_rfl) (by kernel_rfl) (by kernel_rfl) (by kernel_rfl) (by kernel_rfl) ?zq1 (Or.inl ⟨?zwa1, ?zy1⟩) hS ?zrest1
    case zhi1 => simp only [List.getElem?_toArray, List.getElem?_cons_zero, List.getElem?_cons_succ]; rfl
    case zwa1 => rfl
    case zy1 => intro wz hz; obtain ⟨z1, z2⟩ := hz; go_simp <;> rfl
    case zq1 => exact fun _ _ _ h => h
    simp only [Act.put, List.setIfInBounds_toArray, List.set_cons_zero, List.set_cons_succ]
    refine anyL_take 2 (oi := ?zo2) (v := ?zv2) ?zhi2 (by kernel_rfl) (by kernel_rfl) (by kernel_rfl) (by kernel_rfl) (by kernel_rfl) (by kernel_rfl) ?zq2 (Or.inl ⟨?zwa2, ?zy2⟩) hS ?zrest2
    case zhi2 => simp only [List.getElem?_toArray, List.getElem?_cons_zero, List.getElem?_cons_succ]; rfl
    case zwa2 => rfl
    case zy2 => intro wz hz; obtain ⟨z1, z2⟩ := hz; go_simp <;> rfl
    case zq2 => exact fun _ _ _ h => h
    simp only [Act.put, List.setIfInBounds_toArray, List.set_cons_zero, List.set_cons_succ]
    refine anyL_take 3 (oi := ?zo3) (v := ?zv3) ?zhi3 (by kernel_rfl) (by kernel_rfl) (by kernel_rfl) (by kernel_rfl) (by kernel_rfl) (by kernel_rfl) ?zq3 (Or.inl ⟨?zwa3, ?zy3⟩) hS ?zrest3
    case zhi3 => simp only [List.getElem?_toArray, List.getElem?_cons_zero, List.getElem?_cons_succ]; rfl
    case zwa3 => rfl
    case zy3 => intro wz hz; obtain ⟨z1, z2⟩ := hz; go_simp <;> rfl
    case zq3 => exact fun _ _ _ h => h
    simp only [Act.put, List.setIfInBounds_toArray, List.set_cons_zero, List.set_cons_succ]
    refine anyL_take 4 (oi := ?zo4) (v := ?zv4) ?zhi4 (by kernel_rfl) (by kernel_rfl) (by kernel_rfl) (by kernel_rfl) (by kernel_rfl) (by kernel_rfl) ?zq4 (Or.inl ⟨?zwa4, ?zy4⟩) hS ?zrest4
    case zhi4 => simp only [List.getElem?_toArray, List.getElem?_cons_zero, List.getElem?_cons_succ]; rfl
    case zwa4 => rfl
    case zy4 => intro wz hz; obtain ⟨z1, z2⟩ := hz; go_simp <;> rfl
    case zq4 => exact fun _ _ _ h => h
    simp only [Act.put, List.setIfInBounds_toArray, List.set_cons_zero, List.set_cons_succ]
    refine anyL_take 5 (oi := ?zo5) (v := ?zv5) ?zhi5 (by kernel_rfl) (by kernel_rfl) (by kernel_rfl) (by kernel_rfl) (by kernel_rfl) (by kernel_rfl) ?zq5 (Or.inl ⟨?zwa5, ?zy5⟩) hS ?zrest5
    case zhi5 => simp only [List.getElem?_toArray, List.getElem?_cons_zero, List.getElem?_cons_succ]; rfl
    case zwa5 => rfl
    case zy5 => intro wz hz; obtain ⟨z1, z2⟩ := hz; go_simp <;> rfl
    case zq5 => exact fun _ _ _ h => h
    simp only [Act.put, List.setIfInBounds_toArray, List.set_cons_zero, List.set_cons_succ]
    refine anyL_one 6 (o := ?zo6) (by kernel_rfl) ?zhi6 (by kernel_rfl) ?zst6
    case zhi6 => simp only [List.getElem?_toArray, List.getElem?_cons_zero, List.getElem?_cons_succ]; rfl
    intro K hK
    go_simp
    refine CP.out.mono ?_
    rintro e5 w5 ⟨rfl, hb5⟩
    have hs5 := hb5.size
    have H5 := hide (H0.out.below hb5)
    refine hK.out _ _ ⟨H5.out.c2, H5.out.c3⟩ (fun hS2 => ?_)
    have CW := hide (logWith_any w5 none 0 fb (by omega))
    have HTn5 := hide (HTn0.out.trans (Turn.of_below hb5 H0.out.lt))
    clear hK K hS CP hb5 H0 HTn0 HC2 HC3 c1 c2 c3 HT0
    refine anyL_one 7 (o := ?zo7) (by kernel_rfl) ?zhi7 (by kernel_rfl) ?zst7
    case zhi7 => simp only [List.getElem?_toArray, List.getElem?_cons_zero, List.getElem?_cons_succ]; rfl
    intro K hK
    go_simp
    refine CW.out.mono ?_
    rintro e6 w6 ⟨rfl, hp6, hb6⟩
    have H6 := hide (H5.out.below hb6)
    have HL6 : Hid (LogAt w6 cb [fb] (.pointer (some ⟨w5.heap.size + 2, 0, none⟩))) := ⟨_, _, rfl, ⟨by have := H5.out.lt; omega, by have := H5.out.log.rank; omega⟩, hp6, H6.out.log⟩
    refine hK.out _ _ ⟨H6.out.c2, H6.out.c3⟩ (fun hS3 => ?_)
    have HTn6 := hide (HTn5.out.trans (Turn.of_below hb6 H5.out.lt))
    have d2 := H6.out.c2
    have d3 := H6.out.c3
    have g2 := H6.out.fr (o + 2)
    have g3 := H6.out.fr (o + 3)
    have H7 := hide (H6.out.grow HL6.out)
    have HTn7 : Hid (Turn W ((w6.setCell ⟨cb, o + 2, none⟩ (.pointer (some ⟨w5.heap.size + 2, 0, none⟩))).setCell ⟨cb, o + 3, none⟩ (.int .i64 (fb.size : Int))) cb o (o + 5)) := (HTn6.out.set _ _ (by omega) (by omega)).set _ _ (by omega) (by omega)
    have C := hide (sync_any _ cb o _ _ _ H7.out)
    have e0 : (logSize [] : Int) + (fb.size : Int) = (fb.size : Int) := by simp [logSize]
    simp only [e0] at C
    clear hK K hS2 CW hp6 hb6 H5 HTn5 H6 HL6 HTn6 H7 e0
    refine anyL_take 8 (oi := ?zo8) (v := ?zv8) ?zhi8 (by kernel_rfl) (by kernel_rfl) (by kernel_rfl) (by kernel_rfl) (by kernel_rfl) (by kernel_rfl) ?zq8 (Or.inl ⟨?zwa8, ?zy8⟩) hS3 ?zrest8
    case zhi8 => simp only [List.getElem?_toArray, List.getElem?_cons_zero, List.getElem?_cons_succ]; rfl
    case zwa8 => rfl
    case zy8 => intro wz hz; obtain ⟨z1, z2⟩ := hz; go_simp <;> rfl
    case zq8 => exact fun _ _ _ h => h
    simp only [Act.put, List.setIfInBounds_toArray, List.set_cons_zero, List.set_cons_succ]
    refine anyL_take 9 (oi := ?zo9) (v := ?zv9) ?zhi9 (by kernel_rfl) (by kernel_rfl) (by kernel_rfl) (by kernel_rfl) (by kernel_rfl) (by kernel_rfl) ?zq9 (Or.inl ⟨?zwa9, ?zy9⟩) hS3 ?zrest9
    case zhi9 => simp only [List.getElem?_toArray, List.getElem?_cons_zero, List.getElem?_cons_succ]; rfl
    case zwa9 => rfl
    case zy9 => intro wz hz; obtain ⟨z1, z2⟩ := hz; go_simp <;> rfl
    case zq9 => exact fun _ _ _ h => h
    simp only [Act.put, List.setIfInBounds_toArray, List.set_cons_zero, List.set_cons_succ]
    refine anyL_last 10 (o := ?zo10) (by kernel_rfl) ?zhi10 (by kernel_rfl) (by kernel_rfl) ?zst10
    case zhi10 => simp only [List.getElem?_toArray, List.getElem?_cons_zero, List.getElem?_cons_succ]; rfl
    intro K hK
    go_simp
    refine hK.out _ _ ?_
    clear hK K hS3
    go_wp2_with fail
    refine C.out.mono ?_
    rintro e w1 ⟨rfl, h1, t1⟩
    have H1 := hide h1
    have T1 := hide (HTn7.out.trans t1)
    clear h1 t1 C
    go_wp2
    go_end0
    rw [HE.out]
    exact ⟨_, _, rfl, H1.out, T1.out⟩
end Go.Proofs.YtamcclcbmenjdaaGreatDoor

/- The cluster's Compact, Crash, Restart, Log. -/
namespace Go.Proofs.YtamcclcbmenjdaaGreatDoor
open Go.RowKit Go.Lib

def CCEnd (W w' : World) (cb k : Nat) (r : RS) (e : Ending) : Prop := ∃ sv' lp', e = .returned (.int .i64 (if r.up then 0 else 5)) ∧ RepAt w' cb (k * 5) (if r.up then compactOf r else r) sv' lp' ∧ Turn W w' cb (k * 5) (k * 5 + 5)
set_option maxHeartbeats 400000 in
theorem cCompact_any (W : World) (cb k M : Nat) (hk3 : k < 3) (r : RS) (sv lp : Value) (h : RepAt W cb (k * 5) r sv lp) (hk : RepOk M r) (hT : Tabs W) (hcb : 2 < cb) :
    Calls Tryz.prog 24 #[.pointer (some ⟨cb, 0, none⟩), .int .i64 k] W fun e w' => CCEnd W w' cb k r e := by
  have C := hide (running_any W cb k hk3 r sv lp h)
  have C2 := hide (compact_any W cb (k * 5) M r sv lp h hk hT hcb)
  have H := hide h
  clear h hk hT
  cases hu : r.up with
  | true =>
    have HU := hide hu
    rw [hu] at C
    clear hu
    go_enter Tryz.func24, Tryz.ntmps24
    go_wp2_with fail
    refine C.out.mono ?_
    rintro e w1 ⟨rfl, rfl⟩
    go_wp2_with fail
    refine C2.out.mono ?_
    rintro e w1 ⟨sv', lp', rfl, h1, t1⟩
    have H1 := hide h1
    have T1 := hide t1
    clear h1 t1 C C2
    go_wp2
    go_ret
    exact ⟨_, _, by rw [HU.out]; rfl, by rw [HU.out]; exact H1.out, T1.out⟩
  | false =>
    have HU := hide hu
    rw [hu] at C
    clear hu
    go_enter Tryz.func24, Tryz.ntmps24
    go_wp2_with fail
    refine C.out.mono ?_
    rintro e w1 ⟨rfl, rfl⟩
    go_wp2
    go_ret
    exact ⟨_, _, by rw [HU.out]; rfl, by rw [HU.out]; exact H.out, Turn.refl _ _ _ _⟩
def CCrEnd (W w' : World) (cb k : Nat) (r : RS) (keep : Int) (e : Ending) : Prop := ∃ sv' lp', e = .returned (.int .i64 (if r.up then 0 else 5)) ∧ RepAt w' cb (k * 5) (if r.up then crashOf r keep else r) sv' lp' ∧ Turn W w' cb (k * 5) (k * 5 + 5)
set_option maxHeartbeats 400000 in
theorem cCrash_any (W : World) (cb k M : Nat) (hk3 : k < 3) (r : RS) (sv lp : Value) (keep : Int) (h : RepAt W cb (k * 5) r sv lp) (hk : RepOk M r) (hM : M ≤ 40000000000000) (hk1 : -9223372036854775808 ≤ keep) (hk2 : keep ≤ 9223372036854775807) :
    Calls Tryz.prog 26 #[.pointer (some ⟨cb, 0, none⟩), .int .i64 k, .int .i64 keep] W fun e w' => CCrEnd W w' cb k r keep e := by
  have C := hide (running_any W cb k hk3 r sv lp h)
  have C2 := hide (crash_any W cb (k * 5) M r sv lp keep h hk hM hk1 hk2)
  have H := hide h
  clear h hk
  cases hu : r.up with
  | true =>
    have HU := hide hu
    rw [hu] at C
    clear hu
    go_enter Tryz.func26, Tryz.ntmps26
    go_wp2_with fail
    refine C.out.mono ?_
    rintro e w1 ⟨rfl, rfl⟩
    go_wp2_with fail
    refine C2.out.mono ?_
    rintro e w1 ⟨sv', lp', rfl, h1, t1⟩
    have H1 := hide h1
    have T1 := hide t1
    clear h1 t1 C C2
    go_wp2
    go_ret
    exact ⟨_, _, by rw [HU.out]; rfl, by rw [HU.out]; exact H1.out, T1.out⟩
  | false =>
    have HU := hide hu
    rw [hu] at C
    clear hu
    go_enter Tryz.func26, Tryz.ntmps26
    go_wp2_with fail
    refine C.out.mono ?_
    rintro e w1 ⟨rfl, rfl⟩
    go_wp2
    go_ret
    exact ⟨_, _, by rw [HU.out]; rfl, by rw [HU.out]; exact H.out, Turn.refl _ _ _ _⟩
set_option maxHeartbeats 400000 in
theorem cRestart_any (W : World) (cb k M : Nat) (hk3 : k < 3) (r : RS) (sv lp : Value) (h : RepAt W cb (k * 5) r sv lp) (hlen : logSize r.log ≤ M) (hM : M ≤ 1000000000) (hT : Tabs W) (hcb : 2 < cb) :
    Calls Tryz.prog 23 #[.pointer (some ⟨cb, 0, none⟩), .int .i64 k] W fun e w' => RestEnd W w' cb (k * 5) r e := by
  have C := hide (replica_any W cb k hk3)
  have C2 := hide (restart_any W cb (k * 5) M r sv lp h hlen hM hT hcb)
  clear h hT
  go_enter Tryz.func23, Tryz.ntmps23
  go_wp2_with fail
  refine C.out.mono ?_
  rintro e w1 ⟨rfl, rfl⟩
  go_wp2_with fail
  refine C2.out.mono ?_
  rintro e w1 ⟨n, r', sv', lp', rfl, h1, h2, t1⟩
  have H1 := hide h1
  have H2 := hide h2
  have T1 := hide t1
  clear h1 h2 t1 C C2
  go_wp2
  go_ret
  exact ⟨_, _, _, _, rfl, H1.out, H2.out, T1.out⟩
set_option maxHeartbeats 400000 in
theorem cLog_any (W : World) (cb k : Nat) (hk3 : k < 3) (r : RS) (sv lp : Value) (h : RepAt W cb (k * 5) r sv lp) (hlen : logSize r.log ≤ 40000000000000) :
    Calls Tryz.prog 28 #[.pointer (some ⟨cb, 0, none⟩), .int .i64 k] W fun e w' => e = .returned (.tuple #[.string (BA (logB r.log)), .int .i64 0]) ∧ Below W.heap.size W w' := by
  have C := hide (replica_any W cb k hk3)
  have C2 := hide (rLog_any W cb (k * 5) r sv lp h (by omega))
  clear h
  generalize BA (logB r.log) = s at *
  go_enter Tryz.func28, Tryz.ntmps28
  go_wp2_with fail
  refine C.out.mono ?_
  rintro e w1 ⟨rfl, rfl⟩
  go_wp2_with fail
  refine C2.out.mono ?_
  rintro e w1 ⟨rfl, hb⟩
  have HB := hide hb
  clear hb C C2
  go_wp2
  go_ret2
  exact ⟨rfl, HB.out⟩
end Go.Proofs.YtamcclcbmenjdaaGreatDoor

/- What is under way: how it lies in memory; isThere, put. -/
namespace Go.Proofs.YtamcclcbmenjdaaGreatDoor
open Go.RowKit Go.Lib

/-- A message: from, to, its bytes, is it spoilt. -/
structure Msg where
  fr : Nat
  to : Nat
  by_ : ByteArray
  sp : Nat
def Msg.val (m : Msg) : Value := .agg #[.int .i64 m.fr, .int .i64 m.to, .string m.by_, .int .i64 m.sp]
/-- Message m at ⟨cb, o⟩. -/
structure MsgAt (w : World) (cb o : Nat) (m : Msg) : Prop where
  c0 : w.cell? ⟨cb, o, none⟩ = some (.int .i64 m.fr)
  c1 : w.cell? ⟨cb, o + 1, none⟩ = some (.int .i64 m.to)
  c2 : w.cell? ⟨cb, o + 2, none⟩ = some (.string m.by_)
  c3 : w.cell? ⟨cb, o + 3, none⟩ = some (.int .i64 m.sp)
/-- The messages ms lie in the cluster at block cb. -/
structure WayAt (w : World) (cb : Nat) (ms : List Msg) : Prop where
  n : ms.length ≤ 30
  cnt : w.cell? ⟨cb, 135, none⟩ = some (.int .i64 ms.length)
  msg : ∀ i (h : i < ms.length), MsgAt w cb (15 + i * 4) ms[i]
  there : ∀ j, 15 ≤ j → j < 135 → ∃ v, w.cell? ⟨cb, j, none⟩ = some v
  fr : ∀ i, w.frozen? ⟨cb, i, none⟩ = false
theorem MsgAt.turn {w w' : World} {cb lo hi o : Nat} {m : Msg} (h : MsgAt w cb o m) (ht : Turn w w' cb lo hi) (hd : hi ≤ o ∨ o + 4 ≤ lo) : MsgAt w' cb o m :=
  ⟨(ht.cells _ (by omega)).trans h.c0, (ht.cells _ (by omega)).trans h.c1, (ht.cells _ (by omega)).trans h.c2, (ht.cells _ (by omega)).trans h.c3⟩
theorem WayAt.other {w w' : World} {cb lo hi : Nat} {ms : List Msg} (h : WayAt w cb ms) (ht : Turn w w' cb lo hi) (hd : hi ≤ 15) : WayAt w' cb ms :=
  ⟨h.n, (ht.cells _ (by omega)).trans h.cnt, fun i hi => (h.msg i hi).turn ht (by omega), fun j h1 h2 => by rw [ht.cells j (by omega)]; exact h.there j h1 h2, fun i => (ht.frozen i).trans (h.fr i)⟩
theorem WayAt.lt {w : World} {cb : Nat} {ms : List Msg} (h : WayAt w cb ms) : cb < w.heap.size := World.block_lt_of_cell? w _ h.cnt
theorem WayAt.below {w w' : World} {cb : Nat} {ms : List Msg} (h : WayAt w cb ms) (hb : Below w.heap.size w w') : WayAt w' cb ms := h.other (Turn.of_below (lo := 0) (hi := 0) hb h.lt) (by omega)

/-- A message is written at ⟨cb, o⟩. -/
def set4 (w : World) (cb o : Nat) (m : Msg) : World := (((w.setCell ⟨cb, o, none⟩ (.int .i64 m.fr)).setCell ⟨cb, o + 1, none⟩ (.int .i64 m.to)).setCell ⟨cb, o + 2, none⟩ (.string m.by_)).setCell ⟨cb, o + 3, none⟩ (.int .i64 m.sp)
theorem cell_ne {cb i j : Nat} {W : World} {v : Value} (hij : i ≠ j) : (W.setCell ⟨cb, i, none⟩ v).cell? ⟨cb, j, none⟩ = W.cell? ⟨cb, j, none⟩ := World.cell?_setCell_other _ _ _ _ (fun e => hij (congrArg Addr.off e))
theorem there_set {cb i j : Nat} {W : World} {v u : Value} (h : W.cell? ⟨cb, j, none⟩ = some u) : ∃ u', (W.setCell ⟨cb, i, none⟩ v).cell? ⟨cb, j, none⟩ = some u' := by
  by_cases hij : i = j
  · subst hij; exact ⟨v, World.cell?_setCell_same _ _ _ h⟩
  · exact ⟨u, (cell_ne hij).trans h⟩
theorem set4_turn (w : World) (cb o : Nat) (m : Msg) : Turn w (set4 w cb o m) cb o (o + 4) :=
  ((((Turn.refl w cb _ _).set _ _ (by omega) (by omega)).set _ _ (by omega) (by omega)).set _ _ (by omega) (by omega)).set _ _ (by omega) (by omega)
theorem set4_at {w : World} {cb o : Nat} (m : Msg) (h : ∀ j, o ≤ j → j < o + 4 → ∃ v, w.cell? ⟨cb, j, none⟩ = some v) : MsgAt (set4 w cb o m) cb o m := by
  obtain ⟨v0, d0⟩ := h o (by omega) (by omega)
  obtain ⟨v1, d1⟩ := h (o + 1) (by omega) (by omega)
  obtain ⟨v2, d2⟩ := h (o + 2) (by omega) (by omega)
  obtain ⟨v3, d3⟩ := h (o + 3) (by omega) (by omega)
  unfold set4
  refine ⟨?_, ?_, ?_, ?_⟩
  · rw [cell_ne (by omega), cell_ne (by omega), cell_ne (by omega)]; exact World.cell?_setCell_same _ _ _ d0
  · rw [cell_ne (by omega), cell_ne (by omega)]; exact World.cell?_setCell_same _ _ _ ((cell_ne (by omega)).trans d1)
  · rw [cell_ne (by omega)]; exact World.cell?_setCell_same _ _ _ ((cell_ne (by omega)).trans ((cell_ne (by omega)).trans d2))
  · exact World.cell?_setCell_same _ _ _ ((cell_ne (by omega)).trans ((cell_ne (by omega)).trans ((cell_ne (by omega)).trans d3)))
theorem set4_there {w : World} {cb o j : Nat} {m : Msg} (h : ∃ v, w.cell? ⟨cb, j, none⟩ = some v) : ∃ v, (set4 w cb o m).cell? ⟨cb, j, none⟩ = some v := by
  obtain ⟨v, h⟩ := h
  obtain ⟨v, h⟩ := there_set (i := o) (v := .int .i64 m.fr) h
  obtain ⟨v, h⟩ := there_set (i := o + 1) (v := .int .i64 m.to) h
  obtain ⟨v, h⟩ := there_set (i := o + 2) (v := .string m.by_) h
  exact there_set h
/-- One more message. -/
theorem WayAt.push {w : World} {cb : Nat} {ms : List Msg} (h : WayAt w cb ms) (hn : ms.length < 30) (m : Msg) :
    WayAt ((set4 w cb (15 + ms.length * 4) m).setCell ⟨cb, 135, none⟩ (.int .i64 ((ms.length : Int) + 1))) cb (ms ++ [m]) ∧ Turn w ((set4 w cb (15 + ms.length * 4) m).setCell ⟨cb, 135, none⟩ (.int .i64 ((ms.length : Int) + 1))) cb 15 136 := by
  have t1 := set4_turn w cb (15 + ms.length * 4) m
  have t2 : Turn (set4 w cb (15 + ms.length * 4) m) ((set4 w cb (15 + ms.length * 4) m).setCell ⟨cb, 135, none⟩ (.int .i64 ((ms.length : Int) + 1))) cb 135 136 := (Turn.refl _ cb _ _).set _ _ (by omega) (by omega)
  have tt := (t1.wider (lo' := 15) (hi' := 136) (by omega) (by omega)).trans (t2.wider (by omega) (by omega))
  refine ⟨⟨by simp; omega, ?_, fun i hi => ?_, fun j h1 h2 => ?_, fun i => (tt.frozen i).trans (h.fr i)⟩, tt⟩
  · rw [World.cell?_setCell_same _ _ _ ((t1.cells 135 (by omega)).trans h.cnt)]
    simp
  · by_cases hl : i < ms.length
    · rw [List.getElem_append_left hl]
      exact ((h.msg i hl).turn t1 (by omega)).turn t2 (by omega)
    · have hl2 : i = ms.length := by simp at hi; omega
      subst hl2
      rw [List.getElem_append_right (Nat.le_refl _)]
      simp only [Nat.sub_self, List.getElem_singleton]
      exact (set4_at m fun j h1 h2 => h.there j (by omega) (by omega)).turn t2 (by omega)
  · obtain ⟨v, hv⟩ := set4_there (o := 15 + ms.length * 4) (m := m) (h.there j h1 h2)
    exact there_set hv
theorem WayAt.same {w w' : World} {cb : Nat} {ms : List Msg} (h : WayAt w cb ms) (e : w'.heap[cb]? = w.heap[cb]?) : WayAt w' cb ms := by
  have c : ∀ i, w'.cell? ⟨cb, i, none⟩ = w.cell? ⟨cb, i, none⟩ := fun i => World.cell?_of_block (a := ⟨cb, i, none⟩) e
  have f : ∀ i, w'.frozen? ⟨cb, i, none⟩ = w.frozen? ⟨cb, i, none⟩ := fun i => World.frozen?_of_block (a := ⟨cb, i, none⟩) e
  exact ⟨h.n, (c _).trans h.cnt, fun i hi => ⟨(c _).trans (h.msg i hi).c0, (c _).trans (h.msg i hi).c1, (c _).trans (h.msg i hi).c2, (c _).trans (h.msg i hi).c3⟩, fun j h1 h2 => by rw [c j]; exact h.there j h1 h2, fun i => (f i).trans (h.fr i)⟩

set_option maxHeartbeats 400000 in
theorem isThere_any (w : World) (cb : Nat) (i : Int) (ms : List Msg) (h : WayAt w cb ms) :
    Calls Tryz.prog 123 #[.pointer (some ⟨cb, 15, none⟩), .int .i64 i] w fun e w' => e = .returned (.bool (decide (0 ≤ i ∧ i < ms.length))) ∧ w = w' := by
  have c := h.cnt
  clear h
  generalize ms.length = n at *
  by_cases h0 : 0 ≤ i
  · go_enter Tryz.func123, Tryz.ntmps123
    go_wp2
    go_ret
    exact ⟨by simp [h0], rfl⟩
  · go_enter Tryz.func123, Tryz.ntmps123
    go_wp2
    go_ret
    exact ⟨by simp; omega, rfl⟩
set_option maxHeartbeats 400000 in
theorem wput_any (W : World) (cb : Nat) (m : Msg) (ms : List Msg) (h : WayAt W cb ms) :
    Calls Tryz.prog 100 #[.pointer (some ⟨cb, 15, none⟩), m.val] W fun e w' => e = .returned (.tuple #[]) ∧ WayAt w' cb (if ms.length < 30 then ms ++ [m] else ms) ∧ Turn W w' cb 15 136 := by
  have hlt := h.lt
  have hb1 : Below W.heap.size W (W.alloc (.cells #[.int .i64 m.fr, .int .i64 m.to, .string m.by_, .int .i64 m.sp] 121)) := (Below.refl _ _).alloc (Nat.le_refl _) _
  have H := hide h
  have H1 := hide (h.below hb1)
  have c := H1.out.cnt
  have hn := h.n
  clear h
  cases m with
  | mk fr to b sp =>
  by_cases h3 : ms.length < 30
  · unfold Msg.val
    have cW := H.out.cnt
    obtain ⟨v0, d0⟩ := H.out.there (15 + ms.length * 4) (by omega) (by omega)
    obtain ⟨v1, d1⟩ := H.out.there (15 + ms.length * 4 + 1) (by omega) (by omega)
    obtain ⟨v2, d2⟩ := H.out.there (15 + ms.length * 4 + 2) (by omega) (by omega)
    obtain ⟨v3, d3⟩ := H.out.there (15 + ms.length * 4 + 3) (by omega) (by omega)
    have f0 := H.out.fr (15 + ms.length * 4)
    have f1 := H.out.fr (15 + ms.length * 4 + 1)
    have f2 := H.out.fr (15 + ms.length * 4 + 2)
    have f3 := H.out.fr (15 + ms.length * 4 + 3)
    have f4 := H.out.fr 135
    have hi3 : (ms.length : Int) < 30 := by omega
    have HP := hide (H.out.push h3 ⟨fr, to, b, sp⟩)
    unfold set4 at HP
    generalize ms.length = n at *
    go_enter Tryz.func100, Tryz.ntmps100
    go_wp2
    go_region
    go_wp2
    go_end0
    have hb2 : Below (((((W.setCell ⟨cb, 15 + n * 4, none⟩ (.int .i64 fr)).setCell ⟨cb, 15 + n * 4 + 1, none⟩ (.int .i64 to)).setCell ⟨cb, 15 + n * 4 + 2, none⟩ (.string b)).setCell ⟨cb, 15 + n * 4 + 3, none⟩ (.int .i64 sp)).setCell ⟨cb, 135, none⟩ (.int .i64 ((n : Int) + 1))).heap.size (((((W.setCell ⟨cb, 15 + n * 4, none⟩ (.int .i64 fr)).setCell ⟨cb, 15 + n * 4 + 1, none⟩ (.int .i64 to)).setCell ⟨cb, 15 + n * 4 + 2, none⟩ (.string b)).setCell ⟨cb, 15 + n * 4 + 3, none⟩ (.int .i64 sp)).setCell ⟨cb, 135, none⟩ (.int .i64 ((n : Int) + 1))) ((((((W.setCell ⟨cb, 15 + n * 4, none⟩ (.int .i64 fr)).setCell ⟨cb, 15 + n * 4 + 1, none⟩ (.int .i64 to)).setCell ⟨cb, 15 + n * 4 + 2, none⟩ (.string b)).setCell ⟨cb, 15 + n * 4 + 3, none⟩ (.int .i64 sp)).setCell ⟨cb, 135, none⟩ (.int .i64 ((n : Int) + 1))).alloc (.cells #[.int .i64 fr, .int .i64 to, .string b, .int .i64 sp] 121)).drew := ((Below.refl _ _).alloc (Nat.le_refl _) _).drew
    exact ⟨rfl, HP.out.1.below hb2, HP.out.2.trans (Turn.of_below hb2 HP.out.1.lt)⟩
  · have h30 : ms.length = 30 := by omega
    rw [h30] at c
    have c' := c
    clear c
    simp only [show ((30 : Nat) : Int) = 30 from rfl] at c'
    unfold Msg.val
    go_enter Tryz.func100, Tryz.ntmps100
    go_wp2
    go_end0
    exact ⟨rfl, H1.out, Turn.of_below hb1 hlt⟩
end Go.Proofs.YtamcclcbmenjdaaGreatDoor

/- What is under way: Put, Twice, Delete, Take. -/
namespace Go.Proofs.YtamcclcbmenjdaaGreatDoor
open Go.RowKit Go.Lib

/-- One more message, if there is room. -/
def pushed (ms : List Msg) (m : Msg) : List Msg := if ms.length < 30 then ms ++ [m] else ms
set_option maxHeartbeats 400000 in
theorem Put_way (W : World) (cb fr to : Nat) (b : ByteArray) (ms : List Msg) (h : WayAt W cb ms) :
    Calls Tryz.prog 69 #[.pointer (some ⟨cb, 15, none⟩), .agg #[.int .i64 fr, .int .i64 to, .string b]] W fun e w' => e = .returned (.tuple #[]) ∧ WayAt w' cb (pushed ms ⟨fr, to, b, 0⟩) ∧ Turn W w' cb 15 136 := by
  have hlt := h.lt
  have hb1 : Below W.heap.size W (W.alloc (.cells #[.int .i64 fr, .int .i64 to, .string b] 99)) := (Below.refl _ _).alloc (Nat.le_refl _) _
  have C := hide (wput_any _ cb ⟨fr, to, b, 0⟩ ms (h.below hb1))
  unfold Msg.val at C
  clear h
  go_enter Tryz.func69, Tryz.ntmps69
  go_wp2_with fail
  refine C.out.mono ?_
  rintro e w1 ⟨rfl, h1, t1⟩
  have H1 := hide h1
  have T1 := hide ((Turn.of_below (lo := 15) (hi := 136) hb1 hlt).trans t1)
  clear h1 t1 C
  go_wp2
  go_end0
  exact ⟨rfl, H1.out, T1.out⟩
/-- What Twice answers and makes. -/
def TwiceEnd (W w' : World) (cb : Nat) (ms : List Msg) (i : Int) (e : Ending) : Prop := ∃ n ms', e = .returned (.int .i64 (n : Nat)) ∧ ((n = 7 ∧ ms' = ms ∧ ¬ (0 ≤ i ∧ i < ms.length)) ∨ (n = 0 ∧ ∃ k m, i = (k : Nat) ∧ ms[k]? = some m ∧ ms' = pushed ms m)) ∧ WayAt w' cb ms' ∧ Turn W w' cb 15 136
set_option maxHeartbeats 400000 in
theorem wTwice_any (W : World) (cb : Nat) (i : Int) (ms : List Msg) (h : WayAt W cb ms) :
    Calls Tryz.prog 91 #[.pointer (some ⟨cb, 15, none⟩), .int .i64 i] W fun e w' => TwiceEnd W w' cb ms i e := by
  have C := hide (isThere_any W cb i ms h)
  have H := hide h
  have hn := h.n
  clear h
  by_cases hi : 0 ≤ i ∧ i < ms.length
  · obtain ⟨k, rfl⟩ : ∃ k : Nat, i = k := ⟨i.toNat, by omega⟩
    have hk : k < ms.length := by omega
    have c0 := (H.out.msg k hk).c0
    have c1 := (H.out.msg k hk).c1
    have c2 := (H.out.msg k hk).c2
    have c3 := (H.out.msg k hk).c3
    have C2 := hide (wput_any W cb ms[k] ms H.out)
    unfold Msg.val at C2
    have HG : Hid (ms[k]? = some ms[k]) := List.getElem?_eq_getElem hk
    simp only [hi, decide_true, and_self] at C
    have hk30 : (k : Int) < 30 := by omega
    have hk0 : k < 30 := by omega
    clear hi
    generalize ms[k] = m at *
    go_enter Tryz.func91, Tryz.ntmps91
    go_wp2_with fail
    refine C.out.mono ?_
    rintro e w1 ⟨rfl, rfl⟩
    go_wp2_with fail
    refine C2.out.mono ?_
    rintro e w1 ⟨rfl, h1, t1⟩
    have H1 := hide h1
    have T1 := hide t1
    clear h1 t1 C C2
    go_wp2
    go_ret
    exact ⟨0, _, rfl, .inr ⟨rfl, k, m, rfl, HG.out, rfl⟩, H1.out, T1.out⟩
  · have hd : decide (0 ≤ i ∧ i < ms.length) = false := by simp only [hi, decide_false]
    rw [hd] at C
    have HI := hide hi
    clear hi hd
    go_enter Tryz.func91, Tryz.ntmps91
    go_wp2_with fail
    refine C.out.mono ?_
    rintro e w1 ⟨rfl, rfl⟩
    go_wp2
    go_ret
    exact ⟨7, ms, rfl, .inl ⟨rfl, rfl, HI.out⟩, H.out, Turn.refl _ _ _ _⟩
end Go.Proofs.YtamcclcbmenjdaaGreatDoor

/- 'choirkeep.Level', for any list of steps (100 of them are done): when all are up, nothing is under way, and each has told each other one, all have the same, and compacted logs are the same bytes. The first form's statement and its card: no condition beside the row's own. -/
import Derived.Test.YtamcclcbmenjdaaGreatDoorLevelG15
import Derived.Test.YtamcclcbmenjdaaGreatDoorLevelG1
/- The unpacker: takeTime. -/
namespace Go.Proofs.YtamcclcbmenjdaaGreatDoor
open Go.RowKit Go.Lib

theorem mk_le (s : ByteArray) (r pos st : Nat) : (mk s r pos st).1 ≤ r := by
  induction r generalizing pos st with
  | zero => simp [mk]
  | succ r ih => rw [mk]; split
                 · have := ih (tk s pos st 1).2.1 (tk s pos st 1).2.2; show _ + 1 ≤ _; omega
                 · exact Nat.zero_le _
theorem mk_pos (s : ByteArray) (r pos st : Nat) (hp : pos ≤ 8 * s.size) : (mk s r pos st).2.1 ≤ 8 * s.size := by
  induction r generalizing pos st with
  | zero => exact hp
  | succ r ih => rw [mk]; split
                 · exact ih _ _ (tk_pos s pos st 1 hp)
                 · exact tk_pos s pos st 1 hp
theorem UOk.time {s : ByteArray} {u : US} (h : UOk s u) : UOk s (timeU s u) :=
  ⟨add64_le _ _, add64_le _ _, h.hb, h.haz, tk_pos _ _ _ _ (mk_pos _ _ _ _ h.hpos)⟩

set_option linter.unusedSimpArgs false in
set_option maxRecDepth 100000 in
set_option maxHeartbeats 2000000 in
theorem takeTime_any (ub : Nat) (s : ByteArray) (u : US) (w : World) (H : UP w ub s u) (hu : UOk s u) (hs : s.size ≤ 140737488355328) :
    Calls Tryz.prog 151 #[.pointer (some ⟨ub, 0, none⟩)] w fun e w' => e = .returned (.tuple #[]) ∧ UP w' ub s (timeU s u) ∧ Rd w w' ub 0 := by
  have C1 := hide (takeMark_any ub 0 u.pos u.st 4 s w H.br hs hu.hpos (by omega))
  have hk := mk_le s 4 u.pos u.st
  have hkp := mk_pos s 4 u.pos u.st hu.hpos
  have HE : Hid (timeU s u = { u with pos := (tk s (mk s 4 u.pos u.st).2.1 (mk s 4 u.pos u.st).2.2 (stepWidth (mk s 4 u.pos u.st).1)).2.1, st := (tk s (mk s 4 u.pos u.st).2.1 (mk s 4 u.pos u.st).2.2 (stepWidth (mk s 4 u.pos u.st).1)).2.2, d := add64 u.d (sub64 (tk s (mk s 4 u.pos u.st).2.1 (mk s 4 u.pos u.st).2.2 (stepWidth (mk s 4 u.pos u.st).1)).1 (stepShift (mk s 4 u.pos u.st).1)), t := add64 u.t (add64 u.d (sub64 (tk s (mk s 4 u.pos u.st).2.1 (mk s 4 u.pos u.st).2.2 (stepWidth (mk s 4 u.pos u.st).1)).1 (stepShift (mk s 4 u.pos u.st).1))) }) := rfl
  generalize mk s 4 u.pos u.st = m at *
  obtain ⟨k, p1, q1⟩ := m
  simp only at C1 hk hkp HE
  have HP := hide H
  have hd := hu.hd
  clear H
  go_enter Tryz.func151, Tryz.ntmps151
  go_wp2_with fail
  refine C1.out.mono ?_
  rintro e w1 ⟨rfl, hB1, hR1⟩
  have P1 := HP.out.read hB1 hR1
  have hwd := stepWidth_le k
  have htw := P1.tabs.width hk
  have hts := P1.tabs.shift hk
  have c4 := P1.c4
  have hp := P1.hp
  have hub0 : ¬ ub = 0 := by omega
  have hk4 : (k : Int) < 5 := by omega
  have C2 := hide (take_any ub 0 p1 q1 (stepWidth k) s w1.drew (P1.drew).br hs hkp hwd)
  have hx64 := tk_lt s p1 q1 (stepWidth k)
  have hsb := stepShift_lt' k
  generalize tk s p1 q1 (stepWidth k) = x at *
  obtain ⟨x, p2, q2⟩ := x
  simp only at C2 hx64 HE
  have hsub := wrap_sub64 x (stepShift k) hsb
  have hadd := wrap_add64 u.d (sub64 x (stepShift k))
  have hadd2 := wrap_add64 u.t (add64 u.d (sub64 x (stepShift k)))
  generalize sub64 x (stepShift k) = e at *
  have hdl := add64_le u.d e
  have htl := add64_le u.t (add64 u.d e)
  generalize add64 u.d e = d' at *
  generalize add64 u.t d' = t' at *
  have HP1 := hide P1
  have HR1 := hide hR1
  clear P1 hB1 hR1 HP C1 hx64 hsb hkp hwd hu
  go_wp2_with fail
  refine region_anyL (S := fun w' => w'.cell? ⟨0, k * 2, none⟩ = some (.int .i64 (stepWidth k : Nat)) ∧ w'.cell? ⟨0, k * 2 + 1, none⟩ = some (.int .u64 (stepShift k : Nat)) ∧ w'.cell? ⟨ub, 4, none⟩ = some (.int .u64 (u.d : Nat))) 22 (by kernel_rfl) ⟨htw, hts, c4⟩ (fun hS => ?_)
  refine anyL_take 0 (oi := ?zo1) (v := ?zv1) ?zhi1 (by kernel_rfl) (by kernel_rfl) (by kernel_rfl) (by kernel_rfl) (by kernel_rfl) (by kernel_rfl) ?zq1 (Or.inl ⟨?zwa1, ?zy1⟩) hS ?zrest1
  case zhi1 => simp only [List.getElem?_toArray, List.getElem?_cons_zero, List.getElem?_cons_succ]; rfl
  case zwa1 => rfl
  case zy1 => intro wz hz; obtain ⟨z1, z2, z3⟩ := hz; go_simp <;> rfl
  case zq1 => exact fun _ _ _ h => h
  simp only [Act.put, List.setIfInBounds_toArray, List.set_cons_zero, List.set_cons_succ]
  refine anyL_take 1 (oi := ?zo2) (v := ?zv2) ?zhi2 (by kernel_rfl) (by kernel_rfl) (by kernel_rfl) (by kernel_rfl) (by kernel_rfl) (by kernel_rfl) ?zq2 (Or.inl ⟨?zwa2, ?zy2⟩) hS ?zrest2
  case zhi2 => simp only [List.getElem?_toArray, List.getElem?_cons_zero, List.getElem?_cons_succ]; rfl
  case zwa2 => rfl
  case zy2 => intro wz hz; obtain ⟨z1, z2, z3⟩ := hz; go_simp <;> rfl
  case zq2 => exact fun _ _ _ h => h
  simp only [Act.put, List.setIfInBounds_toArray, List.set_cons_zero, List.set_cons_succ]
  refine anyL_take 2 (oi := ?zo3) (v := ?zv3) ?zhi3 (by kernel_rfl) (by kernel_rfl) (by kernel_rfl) (by kernel_rfl) (by kernel_rfl) (by kernel_rfl) ?zq3 (Or.inl ⟨?zwa3, ?zy3⟩) hS ?zrest3
  case zhi3 => simp only [List.getElem?_toArray, List.getElem?_cons_zero, List.getElem?_cons_succ]; rfl
  case zwa3 => rfl
  case zy3 => intro wz hz; obtain ⟨z1, z2, z3⟩ := hz; go_simp <;> rfl
  case zq3 => exact fun _ _ _ h => h
  simp only [Act.put, List.setIfInBounds_toArray, List.set_cons_zero, List.set_cons_succ]
  refine anyL_take 3 (oi := ?zo4) (v := ?zv4) ?zhi4 (by kernel_rfl) (by kernel_rfl) (by kernel_rfl) (by kernel_rfl) (by kernel_rfl) (by kernel_rfl) ?zq4 (Or.inl ⟨?zwa4, ?zy4⟩) hS ?zrest4
  case zhi4 => simp only [List.getElem?_toArray, List.getElem?_cons_zero, List.getElem?_cons_succ]; rfl
  case zwa4 => rfl
  case zy4 => intro wz hz; obtain ⟨z1, z2, z3⟩ := hz; go_simp <;> rfl
  case zq4 => exact fun _ _ _ h => h
  simp only [Act.put, List.setIfInBounds_toArray, List.set_cons_zero, List.set_cons_succ]
  refine anyL_take 4 (oi := ?zo5) (v := ?zv5) ?zhi5 (by kernel_rfl) (by kernel_rfl) (by kernel_rfl) (by kernel_rfl) (by kernel_rfl) (by kernel_rfl) ?zq5 (Or.inl ⟨?zwa5, ?zy5⟩) hS ?zrest5
  case zhi5 => simp only [List.getElem?_toArray, List.getElem?_cons_zero, List.getElem?_cons_succ]; rfl
  case zwa5 => rfl
  case zy5 => intro wz hz; obtain ⟨z1, z2, z3⟩ := hz; go_simp <;> rfl
  case zq5 => exact fun _ _ _ h => h
  simp only [Act.put, List.setIfInBounds_toArray, List.set_cons_zero, List.set_cons_succ]
  refine anyL_take 5 (oi := ?zo6) (v := ?zv6) ?zhi6 (by kernel_rfl) (by kernel_rfl) (by kernel_rfl) (by kernel_rfl) (by kernel_rfl) (by kernel_rfl) ?zq6 (Or.inl ⟨?zwa6, ?zy6⟩) hS ?zrest6
  case zhi6 => simp only [List.getElem?_toArray, List.getElem?_cons_zero, List.getElem?_cons_succ]; rfl
  case zwa6 => rfl
  case zy6 => intro wz hz; obtain ⟨z1, z2, z3⟩ := hz; go_simp <;> rfl
  case zq6 => exact fun _ _ _ h => h
  simp only [Act.put, List.setIfInBounds_toArray, List.set_cons_zero, List.set_cons_succ]
  refine anyL_take 6 (oi := ?zo7) (v := ?zv7) ?zhi7 (by kernel_rfl) (by kernel_rfl) (by kernel_rfl) (by kernel_rfl) (by kernel_rfl) (by kernel_rfl) ?zq7 (Or.inl ⟨?zwa7, ?zy7⟩) hS ?zrest7
  case zhi7 => simp only [List.getElem?_toArray, List.getElem?_cons_zero, List.getElem?_cons_succ]; rfl
  case zwa7 => rfl
  case zy7 => intro wz hz; obtain ⟨z1, z2, z3⟩ := hz; go_simp <;> rfl
  case zq7 => exact fun _ _ _ h => h
  simp only [Act.put, List.setIfInBounds_toArray, List.set_cons_zero, List.set_cons_succ]
  refine anyL_take 7 (oi := ?zo8) (v := ?zv8) ?zhi8 (by kernel_rfl) (by kernel_rfl) (by kernel_rfl) (by kernel_rfl) (by kernel_rfl) (by kernel_rfl) ?zq8 (Or.inl ⟨?zwa8, ?zy8⟩) hS ?zrest8
  case zhi8 => simp only [List.getElem?_toArray, List.getElem?_cons_zero, List.getElem?_cons_succ]; rfl
  case zwa8 => rfl
  case zy8 => intro wz hz; obtain ⟨z1, z2, z3⟩ := hz; go_simp <;> rfl
  case zq8 => exact fun _ _ _ h => h
  simp only [Act.put, List.setIfInBounds_toArray, List.set_cons_zero, List.set_cons_succ]
  refine anyL_take 8 (oi := ?zo9) (v := ?zv9) ?zhi9 (by kernel_rfl) (by kernel_rfl) (by kernel_rfl) (by kernel_rfl) (by kernel_rfl) (by kernel_rfl) ?zq9 (Or.inl ⟨?zwa9, ?zy9⟩) hS ?zrest9
  case zhi9 => simp only [List.getElem?_toArray, List.getElem?_cons_zero, List.getElem?_cons_succ]; rfl
  case zwa9 => rfl
  case zy9 => intro wz hz; obtain ⟨z1, z2, z3⟩ := hz; go_simp <;> rfl
  case zq9 => exact fun _ _ _ h => h
  simp only [Act.put, List.setIfInBounds_toArray, List.set_cons_zero, List.set_cons_succ]
  refine anyL_take 9 (oi := ?zo10) (v := ?zv10) ?zhi10 (by kernel_rfl) (by kernel_rfl) (by kernel_rfl) (by kernel_rfl) (by kernel_rfl) (by kernel_rfl) ?zq10 (Or.inl ⟨?zwa10, ?zy10⟩) hS ?zrest10
  case zhi10 => simp only [List.getElem?_toArray, List.getElem?_cons_zero, List.getElem?_cons_succ]; rfl
  case zwa10 => rfl
  case zy10 => intro wz hz; obtain ⟨z1, z2, z3⟩ := hz; go_simp <;> rfl
  case zq10 => exact fun _ _ _ h => h
  simp only [Act.put, List.setIfInBounds_toArray, List.set_cons_zero, List.set_cons_succ]
  refine anyL_take 10 (oi := ?zo11) (v := ?zv11) ?zhi11 (by kernel_rfl) (by kernel_rfl) (by kernel_rfl) (by kernel_rfl) (by kernel_rfl) (by kernel_rfl) ?zq11 (Or.inl ⟨?zwa11, ?zy11⟩) hS ?zrest11
  case zhi11 => simp only [List.getElem?_toArray, List.getElem?_cons_zero, List.getElem?_cons_succ]; rfl
  case zwa11 => rfl
  case zy11 => intro wz hz; obtain ⟨z1, z2, z3⟩ := hz; go_simp <;> rfl
  case zq11 => exact fun _ _ _ h => h
  simp only [Act.put, List.setIfInBounds_toArray, List.set_cons_zero, List.set_cons_succ]
  refine anyL_take 11 (oi := ?zo12) (v := ?zv12) ?zhi12 (by kernel_rfl) (by kernel_rfl) (by kernel_rfl) (by kernel_rfl) (by kernel_rfl) (by kernel_rfl) ?zq12 (Or.inl ⟨?zwa12, ?zy12⟩) hS ?zrest12
  case zhi12 => simp only [List.getElem?_toArray, List.getElem?_cons_zero, List.getElem?_cons_succ]; rfl
  case zwa12 => rfl
  case zy12 => intro wz hz; obtain ⟨z1, z2, z3⟩ := hz; go_simp <;> rfl
  case zq12 => exact fun _ _ _ h => h
  simp only [Act.put, List.setIfInBounds_toArray, List.set_cons_zero, List.set_cons_succ]
  refine anyL_take 13 (oi := ?zo13) (v := ?zv13) ?zhi13 (by kernel_rfl) (by kernel_rfl) (by kernel_rfl) (by kernel_rfl) (by kernel_rfl) (by kernel_rfl) ?zq13 (Or.inl ⟨?zwa13, ?zy13⟩) hS ?zrest13
  case zhi13 => simp only [List.getElem?_toArray, List.getElem?_cons_zero, List.getElem?_cons_succ]; rfl
  case zwa13 => rfl
  case zy13 => intro wz hz; obtain ⟨z1, z2, z3⟩ := hz; go_simp <;> rfl
  case zq13 => exact fun _ _ _ h => h
  simp only [Act.put, List.setIfInBounds_toArray, List.set_cons_zero, List.set_cons_succ]
  refine anyL_take 14 (oi := ?zo14) (v := ?zv14) ?zhi14 (by kernel_rfl) (by kernel_rfl) (by kernel_rfl) (by kernel_rfl) (by kernel_rfl) (by kernel_rfl) ?zq14 (Or.inl ⟨?zwa14, ?zy14⟩) hS ?zrest14
  case zhi14 => simp only [List.getElem?_toArray, List.getElem?_cons_zero, List.getElem?_cons_succ]; rfl
  case zwa14 => rfl
  case zy14 => intro wz hz; obtain ⟨z1, z2, z3⟩ := hz; go_simp <;> rfl
  case zq14 => exact fun _ _ _ h => h
  simp only [Act.put, List.setIfInBounds_toArray, List.set_cons_zero, List.set_cons_succ]
  refine anyL_take 15 (oi := ?zo15) (v := ?zv15) ?zhi15 (by kernel_rfl) (by kernel_rfl) (by kernel_rfl) (by kernel_rfl) (by kernel_rfl) (by kernel_rfl) ?zq15 (Or.inl ⟨?zwa15, ?zy15⟩) hS ?zrest15
  case zhi15 => simp only [List.getElem?_toArray, List.getElem?_cons_zero, List.getElem?_cons_succ]; rfl
  case zwa15 => rfl
  case zy15 => intro wz hz; obtain ⟨z1, z2, z3⟩ := hz; go_simp <;> rfl
  case zq15 => exact fun _ _ _ h => h
  simp only [Act.put, List.setIfInBounds_toArray, List.set_cons_zero, List.set_cons_succ]
  refine anyL_take 16 (oi := ?zo16) (v := ?zv16) ?zhi16 (by kernel_rfl) (by kernel_rfl) (by kernel_rfl) (by kernel_rfl) (by kernel_rfl) (by kernel_rfl) ?zq16 (Or.inl ⟨?zwa16, ?zy16⟩) hS ?zrest16
  case zhi16 => simp only [List.getElem?_toArray, List.getElem?_cons_zero, List.getElem?_cons_succ]; rfl
  case zwa16 => rfl
  case zy16 => intro wz hz; obtain ⟨z1, z2, z3⟩ := hz; go_simp <;> rfl
  case zq16 => exact fun _ _ _ h => h
  simp only [Act.put, List.setIfInBounds_toArray, List.set_cons_zero, List.set_cons_succ]
  refine anyL_one 12 (o := ?zo17) (by kernel_rfl) ?zhi17 (by kernel_rfl) ?zst17
  case zhi17 => simp only [List.getElem?_toArray, List.getElem?_cons_zero, List.getElem?_cons_succ]; rfl
  intro K hK
  go_simp
  refine C2.out.mono ?_
  rintro r w2 ⟨rfl, hB2, hR2⟩
  have P2 := HP1.out.drew.read hB2 hR2
  have HR2 := hide ((Rd.of_read HR1.out).trans ((Rd.of_read ((Read.refl w1 ub 0).drewN 1)).trans (Rd.of_read hR2)))
  have e3 := P2.c3
  have e4 := P2.c4
  have f3 := P2.fr 3
  have f4 := P2.fr 4
  have HP2 := hide P2
  refine hK.out _ _ ⟨P2.tabs.width hk, P2.tabs.shift hk, e4⟩ (fun hS2 => ?_)
  clear hK K hS P2 hB2 hR2 HP1 HR1 C2 htw hts c4
  refine anyL_take 17 (oi := ?zo18) (v := ?zv18) ?zhi18 (by kernel_rfl) (by kernel_rfl) (by kernel_rfl) (by kernel_rfl) (by kernel_rfl) (by kernel_rfl) ?zq18 (Or.inl ⟨?zwa18, ?zy18⟩) hS2 ?zrest18
  case zhi18 => simp only [List.getElem?_toArray, List.getElem?_cons_zero, List.getElem?_cons_succ]; rfl
  case zwa18 => rfl
  case zy18 => intro wz hz; obtain ⟨z1, z2, z3⟩ := hz; go_simp <;> rfl
  case zq18 => exact fun _ _ _ h => h
  simp only [Act.put, List.setIfInBounds_toArray, List.set_cons_zero, List.set_cons_succ]
  refine anyL_take 18 (oi := ?zo19) (v := ?zv19) ?zhi19 (by kernel_rfl) (by kernel_rfl) (by kernel_rfl) (by kernel_rfl) (by kernel_rfl) (by kernel_rfl) ?zq19 (Or.inl ⟨?zwa19, ?zy19⟩) hS2 ?zrest19
  case zhi19 => simp only [List.getElem?_toArray, List.getElem?_cons_zero, List.getElem?_cons_succ]; rfl
  case zwa19 => rfl
  case zy19 => intro wz hz; obtain ⟨z1, z2, z3⟩ := hz; go_simp <;> rfl
  case zq19 => exact fun _ _ _ h => h
  simp only [Act.put, List.setIfInBounds_toArray, List.set_cons_zero, List.set_cons_succ]
  refine anyL_take 19 (oi := ?zo20) (v := ?zv20) ?zhi20 (by kernel_rfl) (by kernel_rfl) (by kernel_rfl) (by kernel_rfl) (by kernel_rfl) (by kernel_rfl) ?zq20 (Or.inl ⟨?zwa20, ?zy20⟩) hS2 ?zrest20
  case zhi20 => simp only [List.getElem?_toArray, List.getElem?_cons_zero, List.getElem?_cons_succ]; rfl
  case zwa20 => rfl
  case zy20 => intro wz hz; obtain ⟨z1, z2, z3⟩ := hz; go_simp <;> rfl
  case zq20 => exact fun _ _ _ h => h
  simp only [Act.put, List.setIfInBounds_toArray, List.set_cons_zero, List.set_cons_succ]
  refine anyL_take 20 (oi := ?zo21) (v := ?zv21) ?zhi21 (by kernel_rfl) (by kernel_rfl) (by kernel_rfl) (by kernel_rfl) (by kernel_rfl) (by kernel_rfl) ?zq21 (Or.inl ⟨?zwa21, ?zy21⟩) hS2 ?zrest21
  case zhi21 => simp only [List.getElem?_toArray, List.getElem?_cons_zero, List.getElem?_cons_succ]; rfl
  case zwa21 => rfl
  case zy21 => intro wz hz; obtain ⟨z1, z2, z3⟩ := hz; go_simp <;> rfl
  case zq21 => exact fun _ _ _ h => h
  simp only [Act.put, List.setIfInBounds_toArray, List.set_cons_zero, List.set_cons_succ]
  refine anyL_take 21 (oi := ?zo22) (v := ?zv22) ?zhi22 (by kernel_rfl) (by kernel_rfl) (by kernel_rfl) (by kernel_rfl) (by kernel_rfl) (by kernel_rfl) ?zq22 (Or.inl ⟨?zwa22, ?zy22⟩) hS2 ?zrest22
  case zhi22 => simp only [List.getElem?_toArray, List.getElem?_cons_zero, List.getElem?_cons_succ]; rfl
  case zwa22 => rfl
  case zy22 => intro wz hz; obtain ⟨z1, z2, z3⟩ := hz; go_simp <;> rfl
  case zq22 => exact fun _ _ _ h => h
  simp only [Act.put, List.setIfInBounds_toArray, List.set_cons_zero, List.set_cons_succ]
  refine anyL_last 22 (o := ?zo23) (by kernel_rfl) ?zhi23 (by kernel_rfl) (by kernel_rfl) ?zst23
  case zhi23 => simp only [List.getElem?_toArray, List.getElem?_cons_zero, List.getElem?_cons_succ]; rfl
  intro K hK
  go_simp
  refine hK.out _ _ ?_
  clear hK K hS2
  have HP3 := hide ((HP2.out.setD d').setT t')
  have HR3 := hide (HR2.out.set_own (o := 4) (.int .u64 d'))
  clear HP2 HR2 hsub hadd hdl hk4
  go_wp2
  as_aux_lemma =>
    go_region
    go_wp2
    go_end0
    exact ⟨rfl, by rw [HE.out]; exact HP3.out.drew, (HR3.out.set_own _).below (below_drewN (Below.refl _ _) 1)⟩
end Go.Proofs.YtamcclcbmenjdaaGreatDoor

/- 'choirkeep.Level', for any list of steps (100 of them are done): when all are up, nothing is under way, and each has told each other one, all have the same, and compacted logs are the same bytes. The first form's statement and its card: no condition beside the row's own. -/
import Derived.Test.YtamcclcbmenjdaaGreatDoorLevelG16
/- The unpacker: takeBits. -/
namespace Go.Proofs.YtamcclcbmenjdaaGreatDoor
open Go.RowKit Go.Lib

theorem UOk.inn {s : ByteArray} {u : US} (h : UOk s u) : UOk s (inU s u) := by
  have hx := tk_lt s u.pos u.st u.z
  have haz := h.haz
  have hb := h.hb
  refine ⟨h.ht, h.hd, ?_, h.haz, tk_pos _ _ _ _ h.hpos⟩
  have h1 : (tk s u.pos u.st u.z).1 * 2 ^ (64 - u.a - u.z) < 2 ^ 64 := by
    have h2 : (tk s u.pos u.st u.z).1 * 2 ^ (64 - u.a - u.z) < 2 ^ u.z * 2 ^ (64 - u.a - u.z) := Nat.mul_lt_mul_of_pos_right hx (Nat.two_pow_pos _)
    rw [← Nat.pow_add] at h2
    exact Nat.lt_of_lt_of_le h2 (Nat.pow_le_pow_right (by decide) (by omega))
  have h3 : u.b ^^^ ((tk s u.pos u.st u.z).1 * 2 ^ (64 - u.a - u.z)) < 2 ^ 64 := Nat.xor_lt_two_pow (by omega) h1
  show u.b ^^^ ((tk s u.pos u.st u.z).1 * 2 ^ (64 - u.a - u.z)) ≤ _
  omega
theorem uokMark {s : ByteArray} {u : US} (h : UOk s u) (r : Nat) (q : Nat) : UOk s { u with pos := (mk s r u.pos u.st).2.1, st := q } := ⟨h.ht, h.hd, h.hb, h.haz, mk_pos _ _ _ _ h.hpos⟩
theorem UOk.bit {s : ByteArray} {u : US} (h : UOk s u) : UOk s (bitU s u) := by
  unfold bitU
  simp only
  split
  · exact uokMark h 2 (Go.Proofs.YtamcclcbmenjdaaGreatDoor.mk s 2 u.pos u.st).2.2
  · split
    · exact (uokMark h 2 (Go.Proofs.YtamcclcbmenjdaaGreatDoor.mk s 2 u.pos u.st).2.2).win.inn
    · exact (uokMark h 2 (Go.Proofs.YtamcclcbmenjdaaGreatDoor.mk s 2 u.pos u.st).2.2).inn
theorem xor64 (a b : Nat) (ha : a < 2 ^ 64) (hb : b < 2 ^ 64) : Go.bits .xor .u64 (a : Int) (b : Int) = ((a ^^^ b : Nat) : Int) := by
  have hx : a ^^^ b < 2 ^ 64 := Nat.xor_lt_two_pow ha hb
  have h1 : (BitVec.ofInt 64 (a : Int)).toNat = a := by
    rw [BitVec.ofInt_natCast, BitVec.toNat_ofNat]; exact Nat.mod_eq_of_lt (by omega)
  have h2 : (BitVec.ofInt 64 (b : Int)).toNat = b := by
    rw [BitVec.ofInt_natCast, BitVec.toNat_ofNat]; exact Nat.mod_eq_of_lt (by omega)
  show IntKind.u64.wrap ((BitVec.ofInt 64 (a : Int) ^^^ BitVec.ofInt 64 (b : Int)).toNat : Int) = _
  rw [BitVec.toNat_xor, h1, h2, IntKind.wrap_u64]
  omega

set_option linter.unusedSimpArgs false in
set_option maxRecDepth 100000 in
set_option maxHeartbeats 2000000 in
theorem takeBits_one (ub : Nat) (s : ByteArray) (u : US) (w : World) (H : UP w ub s u) (hu : UOk s u) (hs : s.size ≤ 140737488355328) (h1 : (mk s 2 u.pos u.st).1 = 1) :
    Calls Tryz.prog 152 #[.pointer (some ⟨ub, 0, none⟩)] w fun e w' => e = .returned (.tuple #[]) ∧ UP w' ub s (inU s { u with pos := (mk s 2 u.pos u.st).2.1, st := (mk s 2 u.pos u.st).2.2 }) ∧ Rd w w' ub 0 := by
  have C1 := hide (takeMark_any ub 0 u.pos u.st 2 s w H.br hs hu.hpos (by omega))
  have hu1 := uokMark hu 2 (mk s 2 u.pos u.st).2.2
  generalize mk s 2 u.pos u.st = m at *
  obtain ⟨k, p1, q1⟩ := m
  simp only at C1 h1 hu1
  subst h1
  have HP := hide H
  clear H hu
  go_enter Tryz.func152, Tryz.ntmps152
  go_wp2_with fail
  refine C1.out.mono ?_
  rintro e w1 ⟨rfl, hB1, hR1⟩
  have P1 := HP.out.read hB1 hR1
  have HR1 := hide (Rd.of_read hR1)
  clear HP C1 hB1 hR1
  obtain ⟨u1, hU⟩ : ∃ u1 : US, u1 = { u with pos := p1, st := q1 } := ⟨_, rfl⟩
  rw [← hU] at hu1 P1
  have HU := hide hU
  clear hU
  have c5 := P1.c5
  have c6 := P1.c6
  have c7 := P1.c7
  have hp := P1.hp
  have C2 := hide (take_any ub 0 u1.pos u1.st u1.z s w1.drew P1.drew.br hs hu1.hpos (by have := hu1.haz; omega))
  have hx := tk_lt s u1.pos u1.st u1.z
  have hbn := hu1.inn.hb
  have hb5 := hu1.hb
  have haz := hu1.haz
  have HE : Hid (inU s u1 = { u1 with pos := (tk s u1.pos u1.st u1.z).2.1, st := (tk s u1.pos u1.st u1.z).2.2, b := u1.b ^^^ ((tk s u1.pos u1.st u1.z).1 * 2 ^ (64 - u1.a - u1.z)) }) := rfl
  have C3 := hide (fun W => behind_nat u1.a u1.z (64 - u1.a - u1.z) W haz rfl)
  generalize tk s u1.pos u1.st u1.z = t at *
  obtain ⟨x, p2, q2⟩ := t
  simp only at C2 hx HE
  obtain ⟨d, hd⟩ : ∃ d, d = 64 - u1.a - u1.z := ⟨_, rfl⟩
  rw [← hd] at C3 HE
  have hxd : x * 2 ^ d < 2 ^ 64 := by
    have h2 : x * 2 ^ d < 2 ^ u1.z * 2 ^ d := Nat.mul_lt_mul_of_pos_right hx (Nat.two_pow_pos _)
    rw [← Nat.pow_add] at h2
    exact Nat.lt_of_lt_of_le h2 (Nat.pow_le_pow_right (by decide) (by omega))
  have hxor := xor64 u1.b (x * 2 ^ d) (by omega) hxd
  have hshl : IntKind.u64.wrap ((x : Int) * 2 ^ d) = ((x * 2 ^ d : Nat) : Int) := by
    rw [IntKind.wrap_u64, show ((x : Int) * 2 ^ d) = ((x * 2 ^ d : Nat) : Int) by simp]; omega
  have hd64 : d ≤ 64 := by omega
  generalize x * 2 ^ d = X at *
  generalize u1.b ^^^ X = Y at *
  have HP1 := hide P1
  clear P1 hu1 hbn hx hd hxd hb5 haz
  go_wp2_with fail
  refine region_anyL (S := fun w' => w'.cell? ⟨ub, 5, none⟩ = some (.int .u64 (u1.b : Nat)) ∧ w'.cell? ⟨ub, 6, none⟩ = some (.int .i64 (u1.a : Nat)) ∧ w'.cell? ⟨ub, 7, none⟩ = some (.int .i64 (u1.z : Nat))) 26 (by kernel_rfl) ⟨c5, c6, c7⟩ (fun hS => ?_)
  refine anyL_take 0 (oi := ?zo2) (v := ?zv2) ?zhi2 (by kernel_rfl) (by kernel_rfl) (by kernel_rfl) (by kernel_rfl) (by kernel_rfl) (by kernel_rfl) ?zq2 (Or.inl ⟨?zwa2, ?zy2⟩) hS ?zrest2
  case zhi2 => simp only [List.getElem?_toArray, List.getElem?_cons_zero, List.getElem?_cons_succ]; rfl
  case zwa2 => rfl
  case zy2 => intro wz hz; obtain ⟨z1, z2, z3⟩ := hz; go_simp <;> rfl
  case zq2 => exact fun _ _ _ h => h
  simp only [Act.put, List.setIfInBounds_toArray, List.set_cons_zero, List.set_cons_succ]
  refine anyL_take 1 (oi := ?zo3) (v := ?zv3) ?zhi3 (by kernel_rfl) (by kernel_rfl) (by kernel_rfl) (by kernel_rfl) (by kernel_rfl) (by kernel_rfl) ?zq3 (Or.inl ⟨?zwa3, ?zy3⟩) hS ?zrest3
  case zhi3 => simp only [List.getElem?_toArray, List.getElem?_cons_zero, List.getElem?_cons_succ]; rfl
  case zwa3 => rfl
  case zy3 => intro wz hz; obtain ⟨z1, z2, z3⟩ := hz; go_simp <;> rfl
  case zq3 => exact fun _ _ _ h => h
  simp only [Act.put, List.setIfInBounds_toArray, List.set_cons_zero, List.set_cons_succ]
  refine anyL_take 2 (oi := ?zo4) (v := ?zv4) ?zhi4 (by kernel_rfl) (by kernel_rfl) (by kernel_rfl) (by kernel_rfl) (by kernel_rfl) (by kernel_rfl) ?zq4 (Or.inl ⟨?zwa4, ?zy4⟩) hS ?zrest4
  case zhi4 => simp only [List.getElem?_toArray, List.getElem?_cons_zero, List.getElem?_cons_succ]; rfl
  case zwa4 => rfl
  case zy4 => intro wz hz; obtain ⟨z1, z2, z3⟩ := hz; go_simp <;> rfl
  case zq4 => exact fun _ _ _ h => h
  simp only [Act.put, List.setIfInBounds_toArray, List.set_cons_zero, List.set_cons_succ]
  refine anyL_take 3 (oi := ?zo5) (v := ?zv5) ?zhi5 (by kernel_rfl) (by kernel_rfl) (by kernel_rfl) (by kernel_rfl) (by kernel_rfl) (by kernel_rfl) ?zq5 (Or.inl ⟨?zwa5, ?zy5⟩) hS ?zrest5
  case zhi5 => simp only [List.getElem?_toArray, List.getElem?_cons_zero, List.getElem?_cons_succ]; rfl
  case zwa5 => rfl
  case zy5 => intro wz hz; obtain ⟨z1, z2, z3⟩ := hz; go_simp <;> rfl
  case zq5 => exact fun _ _ _ h => h
  simp only [Act.put, List.setIfInBounds_toArray, List.set_cons_zero, List.set_cons_succ]
  refine anyL_take 4 (oi := ?zo6) (v := ?zv6) ?zhi6 (by kernel_rfl) (by kernel_rfl) (by kernel_rfl) (by kernel_rfl) (by kernel_rfl) (by kernel_rfl) ?zq6 (Or.inl ⟨?zwa6, ?zy6⟩) hS ?zrest6
  case zhi6 => simp only [List.getElem?_toArray, List.getElem?_cons_zero, List.getElem?_cons_succ]; rfl
  case zwa6 => rfl
  case zy6 => intro wz hz; obtain ⟨z1, z2, z3⟩ := hz; go_simp <;> rfl
  case zq6 => exact fun _ _ _ h => h
  simp only [Act.put, List.setIfInBounds_toArray, List.set_cons_zero, List.set_cons_succ]
  refine anyL_take 5 (oi := ?zo7) (v := ?zv7) ?zhi7 (by kernel_rfl) (by kernel_rfl) (by kernel_rfl) (by kernel_rfl) (by kernel_rfl) (by kernel_rfl) ?zq7 (Or.inl ⟨?zwa7, ?zy7⟩) hS ?zrest7
  case zhi7 => simp only [List.getElem?_toArray, List.getElem?_cons_zero, List.getElem?_cons_succ]; rfl
  case zwa7 => rfl
  case zy7 => intro wz hz; obtain ⟨z1, z2, z3⟩ := hz; go_simp <;> rfl
  case zq7 => exact fun _ _ _ h => h
  simp only [Act.put, List.setIfInBounds_toArray, List.set_cons_zero, List.set_cons_succ]
  refine anyL_take 6 (oi := ?zo8) (v := ?zv8) ?zhi8 (by kernel_rfl) (by kernel_rfl) (by kernel_rfl) (by kernel_rfl) (by kernel_rfl) (by kernel_rfl) ?zq8 (Or.inl ⟨?zwa8, ?zy8⟩) hS ?zrest8
  case zhi8 => simp only [List.getElem?_toArray, List.getElem?_cons_zero, List.getElem?_cons_succ]; rfl
  case zwa8 => rfl
  case zy8 => intro wz hz; obtain ⟨z1, z2, z3⟩ := hz; go_simp <;> rfl
  case zq8 => exact fun _ _ _ h => h
  simp only [Act.put, List.setIfInBounds_toArray, List.set_cons_zero, List.set_cons_succ]
  refine anyL_take 7 (oi := ?zo9) (v := ?zv9) ?zhi9 (by kernel_rfl) (by kernel_rfl) (by kernel_rfl) (by kernel_rfl) (by kernel_rfl) (by kernel_rfl) ?zq9 (Or.inl ⟨?zwa9, ?zy9⟩) hS ?zrest9
  case zhi9 => simp only [List.getElem?_toArray, List.getElem?_cons_zero, List.getElem?_cons_succ]; rfl
  case zwa9 => rfl
  case zy9 => intro wz hz; obtain ⟨z1, z2, z3⟩ := hz; go_simp <;> rfl
  case zq9 => exact fun _ _ _ h => h
  simp only [Act.put, List.setIfInBounds_toArray, List.set_cons_zero, List.set_cons_succ]
  refine anyL_take 8 (oi := ?zo10) (v := ?zv10) ?zhi10 (by kernel_rfl) (by kernel_rfl) (by kernel_rfl) (by kernel_rfl) (by kernel_rfl) (by kernel_rfl) ?zq10 (Or.inl ⟨?zwa10, ?zy10⟩) hS ?zrest10
  case zhi10 => simp only [List.getElem?_toArray, List.getElem?_cons_zero, List.getElem?_cons_succ]; rfl
  case zwa10 => rfl
  case zy10 => intro wz hz; obtain ⟨z1, z2, z3⟩ := hz; go_simp <;> rfl
  case zq10 => exact fun _ _ _ h => h
  simp only [Act.put, List.setIfInBounds_toArray, List.set_cons_zero, List.set_cons_succ]
  refine anyL_take 9 (oi := ?zo11) (v := ?zv11) ?zhi11 (by kernel_rfl) (by kernel_rfl) (by kernel_rfl) (by kernel_rfl) (by kernel_rfl) (by kernel_rfl) ?zq11 (Or.inl ⟨?zwa11, ?zy11⟩) hS ?zrest11
  case zhi11 => simp only [List.getElem?_toArray, List.getElem?_cons_zero, List.getElem?_cons_succ]; rfl
  case zwa11 => rfl
  case zy11 => intro wz hz; obtain ⟨z1, z2, z3⟩ := hz; go_simp <;> rfl
  case zq11 => exact fun _ _ _ h => h
  simp only [Act.put, List.setIfInBounds_toArray, List.set_cons_zero, List.set_cons_succ]
  refine anyL_take 10 (oi := ?zo12) (v := ?zv12) ?zhi12 (by kernel_rfl) (by kernel_rfl) (by kernel_rfl) (by kernel_rfl) (by kernel_rfl) (by kernel_rfl) ?zq12 (Or.inl ⟨?zwa12, ?zy12⟩) hS ?zrest12
  case zhi12 => simp only [List.getElem?_toArray, List.getElem?_cons_zero, List.getElem?_cons_succ]; rfl
  case zwa12 => rfl
  case zy12 => intro wz hz; obtain ⟨z1, z2, z3⟩ := hz; go_simp <;> rfl
  case zq12 => exact fun _ _ _ h => h
  simp only [Act.put, List.setIfInBounds_toArray, List.set_cons_zero, List.set_cons_succ]
  refine anyL_take 11 (oi := ?zo13) (v := ?zv13) ?zhi13 (by kernel_rfl) (by kernel_rfl) (by kernel_rfl) (by kernel_rfl) (by kernel_rfl) (by kernel_rfl) ?zq13 (Or.inl ⟨?zwa13, ?zy13⟩) hS ?zrest13
  case zhi13 => simp only [List.getElem?_toArray, List.getElem?_cons_zero, List.getElem?_cons_succ]; rfl
  case zwa13 => rfl
  case zy13 => intro wz hz; obtain ⟨z1, z2, z3⟩ := hz; go_simp <;> rfl
  case zq13 => exact fun _ _ _ h => h
  simp only [Act.put, List.setIfInBounds_toArray, List.set_cons_zero, List.set_cons_succ]
  refine anyL_take 12 (oi := ?zo14) (v := ?zv14) ?zhi14 (by kernel_rfl) (by kernel_rfl) (by kernel_rfl) (by kernel_rfl) (by kernel_rfl) (by kernel_rfl) ?zq14 (Or.inl ⟨?zwa14, ?zy14⟩) hS ?zrest14
  case zhi14 => simp only [List.getElem?_toArray, List.getElem?_cons_zero, List.getElem?_cons_succ]; rfl
  case zwa14 => rfl
  case zy14 => intro wz hz; obtain ⟨z1, z2, z3⟩ := hz; go_simp <;> rfl
  case zq14 => exact fun _ _ _ h => h
  simp only [Act.put, List.setIfInBounds_toArray, List.set_cons_zero, List.set_cons_succ]
  refine anyL_take 13 (oi := ?zo15) (v := ?zv15) ?zhi15 (by kernel_rfl) (by kernel_rfl) (by kernel_rfl) (by kernel_rfl) (by kernel_rfl) (by kernel_rfl) ?zq15 (Or.inl ⟨?zwa15, ?zy15⟩) hS ?zrest15
  case zhi15 => simp only [List.getElem?_toArray, List.getElem?_cons_zero, List.getElem?_cons_succ]; rfl
  case zwa15 => rfl
  case zy15 => intro wz hz; obtain ⟨z1, z2, z3⟩ := hz; go_simp <;> rfl
  case zq15 => exact fun _ _ _ h => h
  simp only [Act.put, List.setIfInBounds_toArray, List.set_cons_zero, List.set_cons_succ]
  refine anyL_take 15 (oi := ?zo16) (v := ?zv16) ?zhi16 (by kernel_rfl) (by kernel_rfl) (by kernel_rfl) (by kernel_rfl) (by kernel_rfl) (by kernel_rfl) ?zq16 (Or.inl ⟨?zwa16, ?zy16⟩) hS ?zrest16
  case zhi16 => simp only [List.getElem?_toArray, List.getElem?_cons_zero, List.getElem?_cons_succ]; rfl
  case zwa16 => rfl
  case zy16 => intro wz hz; obtain ⟨z1, z2, z3⟩ := hz; go_simp <;> rfl
  case zq16 => exact fun _ _ _ h => h
  simp only [Act.put, List.setIfInBounds_toArray, List.set_cons_zero, List.set_cons_succ]
  refine anyL_take 16 (oi := ?zo17) (v := ?zv17) ?zhi17 (by kernel_rfl) (by kernel_rfl) (by kernel_rfl) (by kernel_rfl) (by kernel_rfl) (by kernel_rfl) ?zq17 (Or.inl ⟨?zwa17, ?zy17⟩) hS ?zrest17
  case zhi17 => simp only [List.getElem?_toArray, List.getElem?_cons_zero, List.getElem?_cons_succ]; rfl
  case zwa17 => rfl
  case zy17 => intro wz hz; obtain ⟨z1, z2, z3⟩ := hz; go_simp <;> rfl
  case zq17 => exact fun _ _ _ h => h
  simp only [Act.put, List.setIfInBounds_toArray, List.set_cons_zero, List.set_cons_succ]
  refine anyL_take 17 (oi := ?zo18) (v := ?zv18) ?zhi18 (by kernel_rfl) (by kernel_rfl) (by kernel_rfl) (by kernel_rfl) (by kernel_rfl) (by kernel_rfl) ?zq18 (Or.inl ⟨?zwa18, ?zy18⟩) hS ?zrest18
  case zhi18 => simp only [List.getElem?_toArray, List.getElem?_cons_zero, List.getElem?_cons_succ]; rfl
  case zwa18 => rfl
  case zy18 => intro wz hz; obtain ⟨z1, z2, z3⟩ := hz; go_simp <;> rfl
  case zq18 => exact fun _ _ _ h => h
  simp only [Act.put, List.setIfInBounds_toArray, List.set_cons_zero, List.set_cons_succ]
  refine anyL_take 18 (oi := ?zo19) (v := ?zv19) ?zhi19 (by kernel_rfl) (by kernel_rfl) (by kernel_rfl) (by kernel_rfl) (by kernel_rfl) (by kernel_rfl) ?zq19 (Or.inl ⟨?zwa19, ?zy19⟩) hS ?zrest19
  case zhi19 => simp only [List.getElem?_toArray, List.getElem?_cons_zero, List.getElem?_cons_succ]; rfl
  case zwa19 => rfl
  case zy19 => intro wz hz; obtain ⟨z1, z2, z3⟩ := hz; go_simp <;> rfl
  case zq19 => exact fun _ _ _ h => h
  simp only [Act.put, List.setIfInBounds_toArray, List.set_cons_zero, List.set_cons_succ]
  refine anyL_take 19 (oi := ?zo20) (v := ?zv20) ?zhi20 (by kernel_rfl) (by kernel_rfl) (by kernel_rfl) (by kernel_rfl) (by kernel_rfl) (by kernel_rfl) ?zq20 (Or.inl ⟨?zwa20, ?zy20⟩) hS ?zrest20
  case zhi20 => simp only [List.getElem?_toArray, List.getElem?_cons_zero, List.getElem?_cons_succ]; rfl
  case zwa20 => rfl
  case zy20 => intro wz hz; obtain ⟨z1, z2, z3⟩ := hz; go_simp <;> rfl
  case zq20 => exact fun _ _ _ h => h
  simp only [Act.put, List.setIfInBounds_toArray, List.set_cons_zero, List.set_cons_succ]
  refine anyL_one 14 (o := ?zo21) (by kernel_rfl) ?zhi21 (by kernel_rfl) ?zst21
  case zhi21 => simp only [List.getElem?_toArray, List.getElem?_cons_zero, List.getElem?_cons_succ]; rfl
  intro K hK
  go_simp
  refine C2.out.mono ?_
  rintro r w2 ⟨rfl, hB2, hR2⟩
  have P2 := HP1.out.drew.read hB2 hR2
  have HR2 := hide (HR1.out.trans ((Rd.of_read ((Read.refl w1 ub 0).drewN 1)).trans (Rd.of_read hR2)))
  have HP2 := hide P2
  refine hK.out _ _ ⟨P2.c5, P2.c6, P2.c7⟩ (fun hS2 => ?_)
  clear hK K hS P2 hB2 hR2 HP1 HR1 C2 c5 c6 c7
  refine anyL_one 20 (o := ?zo22) (by kernel_rfl) ?zhi22 (by kernel_rfl) ?zst22
  case zhi22 => simp only [List.getElem?_toArray, List.getElem?_cons_zero, List.getElem?_cons_succ]; rfl
  intro K hK
  go_simp
  refine (C3.out _).mono ?_
  rintro r w3 ⟨rfl, hw3⟩
  have P3 : UP w3 ub s { u1 with pos := p2, st := q2 } := by rw [hw3]; exact HP2.out.alloc _
  have HR3 : Hid (Rd w w3 ub 0) := by rw [hw3]; exact HR2.out.alloc _
  have e5 := P3.c5
  have f5 := P3.fr 5
  have HP3 := hide P3
  refine hK.out _ _ ⟨P3.c5, P3.c6, P3.c7⟩ (fun hS3 => ?_)
  clear hK K hS2 P3 HP2 HR2 C3 hw3
  refine anyL_take 21 (oi := ?zo23) (v := ?zv23) ?zhi23 (by kernel_rfl) (by kernel_rfl) (by kernel_rfl) (by kernel_rfl) (by kernel_rfl) (by kernel_rfl) ?zq23 (Or.inl ⟨?zwa23, ?zy23⟩) hS3 ?zrest23
  case zhi23 => simp only [List.getElem?_toArray, List.getElem?_cons_zero, List.getElem?_cons_succ]; rfl
  case zwa23 => rfl
  case zy23 => intro wz hz; obtain ⟨z1, z2, z3⟩ := hz; go_simp <;> rfl
  case zq23 => exact fun _ _ _ h => h
  simp only [Act.put, List.setIfInBounds_toArray, List.set_cons_zero, List.set_cons_succ]
  refine anyL_take 22 (oi := ?zo24) (v := ?zv24) ?zhi24 (by kernel_rfl) (by kernel_rfl) (by kernel_rfl) (by kernel_rfl) (by kernel_rfl) (by kernel_rfl) ?zq24 (Or.inl ⟨?zwa24, ?zy24⟩) hS3 ?zrest24
  case zhi24 => simp only [List.getElem?_toArray, List.getElem?_cons_zero, List.getElem?_cons_succ]; rfl
  case zwa24 => rfl
  case zy24 => intro wz hz; obtain ⟨z1, z2, z3⟩ := hz; go_simp <;> rfl
  case zq24 => exact fun _ _ _ h => h
  simp only [Act.put, List.setIfInBounds_toArray, List.set_cons_zero, List.set_cons_succ]
  refine anyL_take 23 (oi := ?zo25) (v := ?zv25) ?zhi25 (by kernel_rfl) (by kernel_rfl) (by kernel_rfl) (by kernel_rfl) (by kernel_rfl) (by kernel_rfl) ?zq25 (Or.inl ⟨?zwa25, ?zy25⟩) hS3 ?zrest25
  case zhi25 => simp only [List.getElem?_toArray, List.getElem?_cons_zero, List.getElem?_cons_succ]; rfl
  case zwa25 => rfl
  case zy25 => intro wz hz; obtain ⟨z1, z2, z3⟩ := hz; go_simp <;> rfl
  case zq25 => exact fun _ _ _ h => h
  simp only [Act.put, List.setIfInBounds_toArray, List.set_cons_zero, List.set_cons_succ]
  refine anyL_take 24 (oi := ?zo26) (v := ?zv26) ?zhi26 (by kernel_rfl) (by kernel_rfl) (by kernel_rfl) (by kernel_rfl) (by kernel_rfl) (by kernel_rfl) ?zq26 (Or.inl ⟨?zwa26, ?zy26⟩) hS3 ?zrest26
  case zhi26 => simp only [List.getElem?_toArray, List.getElem?_cons_zero, List.getElem?_cons_succ]; rfl
  case zwa26 => rfl
  case zy26 => intro wz hz; obtain ⟨z1, z2, z3⟩ := hz; go_simp <;> rfl
  case zq26 => exact fun _ _ _ h => h
  simp only [Act.put, List.setIfInBounds_toArray, List.set_cons_zero, List.set_cons_succ]
  refine anyL_take 25 (oi := ?zo27) (v := ?zv27) ?zhi27 (by kernel_rfl) (by kernel_rfl) (by kernel_rfl) (by kernel_rfl) (by kernel_rfl) (by kernel_rfl) ?zq27 (Or.inl ⟨?zwa27, ?zy27⟩) hS3 ?zrest27
  case zhi27 => simp only [List.getElem?_toArray, List.getElem?_cons_zero, List.getElem?_cons_succ]; rfl
  case zwa27 => rfl
  case zy27 => intro wz hz; obtain ⟨z1, z2, z3⟩ := hz; go_simp <;> rfl
  case zq27 => exact fun _ _ _ h => h
  simp only [Act.put, List.setIfInBounds_toArray, List.set_cons_zero, List.set_cons_succ]
  refine anyL_last 26 (o := ?zo1) (by kernel_rfl) ?zhi1 (by kernel_rfl) (by kernel_rfl) ?zst1
  case zhi1 => simp only [List.getElem?_toArray, List.getElem?_cons_zero, List.getElem?_cons_succ]; rfl
  intro K hK
  go_simp
  refine hK.out _ _ ?_
  clear hK K hS3
  have HP4 := hide (HP3.out.setB Y)
  have HR4 := hide (HR3.out.set_own (o := 5) (.int .u64 Y))
  clear HP3 HR3 hxor hshl
  go_wp2
  go_end0
  exact ⟨rfl, by rw [← HU.out, HE.out]; exact HP4.out, HR4.out⟩

set_option linter.unusedSimpArgs false in
set_option maxRecDepth 100000 in
set_option maxHeartbeats 2000000 in
theorem takeBits_two (ub : Nat) (s : ByteArray) (u : US) (w : World) (H : UP w ub s u) (hu : UOk s u) (hs : s.size ≤ 140737488355328) (h1 : (mk s 2 u.pos u.st).1 = 2) :
    Calls Tryz.prog 152 #[.pointer (some ⟨ub, 0, none⟩)] w fun e w' => e = .returned (.tuple #[]) ∧ UP w' ub s (inU s (winU s { u with pos := (mk s 2 u.pos u.st).2.1, st := (mk s 2 u.pos u.st).2.2 })) ∧ Rd w w' ub 0 := by
  have C1 := hide (takeMark_any ub 0 u.pos u.st 2 s w H.br hs hu.hpos (by omega))
  have hu1 := uokMark hu 2 (mk s 2 u.pos u.st).2.2
  generalize mk s 2 u.pos u.st = m at *
  obtain ⟨k, p1, q1⟩ := m
  simp only at C1 h1 hu1
  subst h1
  have HP := hide H
  clear H hu
  go_enter Tryz.func152, Tryz.ntmps152
  go_wp2_with fail
  refine C1.out.mono ?_
  rintro e w1 ⟨rfl, hB1, hR1⟩
  have P0 := HP.out.read hB1 hR1
  have HR0 := hide (Rd.of_read hR1)
  have C0 := hide (takeWindow_any ub s _ w1 P0 hu1 hs)
  have hu2 := hu1.win
  clear HP C1 hB1 hR1 P0 hu1
  go_wp2_with fail
  refine C0.out.mono ?_
  rintro e w1' ⟨rfl, P1, hR1⟩
  have HR1 := hide (HR0.out.trans hR1)
  obtain ⟨u1, hU⟩ : ∃ u1 : US, u1 = winU s { u with pos := p1, st := q1 } := ⟨_, rfl⟩
  rw [← hU] at hu2 P1
  have HU := hide hU
  have hu1 := hu2
  clear hU hR1 HR0 C0 hu2
  generalize w1' = w1 at *
  have c5 := P1.c5
  have c6 := P1.c6
  have c7 := P1.c7
  have hp := P1.hp
  have C2 := hide (take_any ub 0 u1.pos u1.st u1.z s w1.drew P1.drew.br hs hu1.hpos (by have := hu1.haz; omega))
  have hx := tk_lt s u1.pos u1.st u1.z
  have hbn := hu1.inn.hb
  have hb5 := hu1.hb
  have haz := hu1.haz
  have HE : Hid (inU s u1 = { u1 with pos := (tk s u1.pos u1.st u1.z).2.1, st := (tk s u1.pos u1.st u1.z).2.2, b := u1.b ^^^ ((tk s u1.pos u1.st u1.z).1 * 2 ^ (64 - u1.a - u1.z)) }) := rfl
  have C3 := hide (fun W => behind_nat u1.a u1.z (64 - u1.a - u1.z) W haz rfl)
  generalize tk s u1.pos u1.st u1.z = t at *
  obtain ⟨x, p2, q2⟩ := t
  simp only at C2 hx HE
  obtain ⟨d, hd⟩ : ∃ d, d = 64 - u1.a - u1.z := ⟨_, rfl⟩
  rw [← hd] at C3 HE
  have hxd : x * 2 ^ d < 2 ^ 64 := by
    have h2 : x * 2 ^ d < 2 ^ u1.z * 2 ^ d := Nat.mul_lt_mul_of_pos_right hx (Nat.two_pow_pos _)
    rw [← Nat.pow_add] at h2
    exact Nat.lt_of_lt_of_le h2 (Nat.pow_le_pow_right (by decide) (by omega))
  have hxor := xor64 u1.b (x * 2 ^ d) (by omega) hxd
  have hshl : IntKind.u64.wrap ((x : Int) * 2 ^ d) = ((x * 2 ^ d : Nat) : Int) := by
    rw [IntKind.wrap_u64, show ((x : Int) * 2 ^ d) = ((x * 2 ^ d : Nat) : Int) by simp]; omega
  have hd64 : d ≤ 64 := by omega
  generalize x * 2 ^ d = X at *
  generalize u1.b ^^^ X = Y at *
  have HP1 := hide P1
  clear P1 hu1 hbn hx hd hxd hb5 haz
  go_wp2_with fail
  refine region_anyL (S := fun w' => w'.cell? ⟨ub, 5, none⟩ = some (.int .u64 (u1.b : Nat)) ∧ w'.cell? ⟨ub, 6, none⟩ = some (.int .i64 (u1.a : Nat)) ∧ w'.cell? ⟨ub, 7, none⟩ = some (.int .i64 (u1.z : Nat))) 26 (by kernel_rfl) ⟨c5, c6, c7⟩ (fun hS => ?_)
  refine anyL_take 0 (oi := ?zo28) (v := ?zv28) ?zhi28 (by kernel_rfl) (by kernel_rfl) (by kernel_rfl) (by kernel_rfl) (by kernel_rfl) (by kernel_rfl) ?zq28 (Or.inl ⟨?zwa28, ?zy28⟩) hS ?zrest28
  case zhi28 => simp only [List.getElem?_toArray, List.getElem?_cons_zero, List.getElem?_cons_succ]; rfl
  case zwa28 => rfl
  case zy28 => intro wz hz; obtain ⟨z1, z2, z3⟩ := hz; go_simp <;> rfl
  case zq28 => exact fun _ _ _ h => h
  simp only [Act.put, List.setIfInBounds_toArray, List.set_cons_zero, List.set_cons_succ]
  refine anyL_take 1 (oi := ?zo29) (v := ?zv29) ?zhi29 (by kernel_rfl) (by kernel_rfl) (by kernel_rfl) (by kernel_rfl) (by kernel_rfl) (by kernel_rfl) ?zq29 (Or.inl ⟨?zwa29, ?zy29⟩) hS ?zrest29
  case zhi29 => simp only [List.getElem?_toArray, List.getElem?_cons_zero, List.getElem?_cons_succ]; rfl
  case zwa29 => rfl
  case zy29 => intro wz hz; obtain ⟨z1, z2, z3⟩ := hz; go_simp <;> rfl
  case zq29 => exact fun _ _ _ h => h
  simp only [Act.put, List.setIfInBounds_toArray, List.set_cons_zero, List.set_cons_succ]
  refine anyL_take 2 (oi := ?zo30) (v := ?zv30) ?zhi30 (by kernel_rfl) (by kernel_rfl) (by kernel_rfl) (by kernel_rfl) (by kernel_rfl) (by kernel_rfl) ?zq30 (Or.inl ⟨?zwa30, ?zy30⟩) hS ?zrest30
  case zhi30 => simp only [List.getElem?_toArray, List.getElem?_cons_zero, List.getElem?_cons_succ]; rfl
  case zwa30 => rfl
  case zy30 => intro wz hz; obtain ⟨z1, z2, z3⟩ := hz; go_simp <;> rfl
  case zq30 => exact fun _ _ _ h => h
  simp only [Act.put, List.setIfInBounds_toArray, List.set_cons_zero, List.set_cons_succ]
  refine anyL_take 3 (oi := ?zo31) (v := ?zv31) ?zhi31 (by kernel_rfl) (by kernel_rfl) (by kernel_rfl) (by kernel_rfl) (by kernel_rfl) (by kernel_rfl) ?zq31 (Or.inl ⟨?zwa31, ?zy31⟩) hS ?zrest31
  case zhi31 => simp only [List.getElem?_toArray, List.getElem?_cons_zero, List.getElem?_cons_succ]; rfl
  case zwa31 => rfl
  case zy31 => intro wz hz; obtain ⟨z1, z2, z3⟩ := hz; go_simp <;> rfl
  case zq31 => exact fun _ _ _ h => h
  simp only [Act.put, List.setIfInBounds_toArray, List.set_cons_zero, List.set_cons_succ]
  refine anyL_take 4 (oi := ?zo32) (v := ?zv32) ?zhi32 (by kernel_rfl) (by kernel_rfl) (by kernel_rfl) (by kernel_rfl) (by kernel_rfl) (by kernel_rfl) ?zq32 (Or.inl ⟨?zwa32, ?zy32⟩) hS ?zrest32
  case zhi32 => simp only [List.getElem?_toArray, List.getElem?_cons_zero, List.getElem?_cons_succ]; rfl
  case zwa32 => rfl
  case zy32 => intro wz hz; obtain ⟨z1, z2, z3⟩ := hz; go_simp <;> rfl
  case zq32 => exact fun _ _ _ h => h
  simp only [Act.put, List.setIfInBounds_toArray, List.set_cons_zero, List.set_cons_succ]
  refine anyL_take 5 (oi := ?zo33) (v := ?zv33) ?zhi33 (by kernel_rfl) (by kernel_rfl) (by kernel_rfl) (by kernel_rfl) (by kernel_rfl) (by kernel_rfl) ?zq33 (Or.inl ⟨?zwa33, ?zy33⟩) hS ?zrest33
  case zhi33 => simp only [List.getElem?_toArray, List.getElem?_cons_zero, List.getElem?_cons_succ]; rfl
  case zwa33 => rfl
  case zy33 => intro wz hz; obtain ⟨z1, z2, z3⟩ := hz; go_simp <;> rfl
  case zq33 => exact fun _ _ _ h => h
  simp only [Act.put, List.setIfInBounds_toArray, List.set_cons_zero, List.set_cons_succ]
  refine anyL_take 6 (oi := ?zo34) (v := ?zv34) ?zhi34 (by kernel_rfl) (by kernel_rfl) (by kernel_rfl) (by kernel_rfl) (by kernel_rfl) (by kernel_rfl) ?zq34 (Or.inl ⟨?zwa34, ?zy34⟩) hS ?zrest34
  case zhi34 => simp only [List.getElem?_toArray, List.getElem?_cons_zero, List.getElem?_cons_succ]; rfl
  case zwa34 => rfl
  case zy34 => intro wz hz; obtain ⟨z1, z2, z3⟩ := hz; go_simp <;> rfl
  case zq34 => exact fun _ _ _ h => h
  simp only [Act.put, List.setIfInBounds_toArray, List.set_cons_zero, List.set_cons_succ]
  refine anyL_take 7 (oi := ?zo35) (v := ?zv35) ?zhi35 (by kernel_rfl) (by kernel_rfl) (by kernel_rfl) (by kernel_rfl) (by kernel_rfl) (by kernel_rfl) ?zq35 (Or.inl ⟨?zwa35, ?zy35⟩) hS ?zrest35
  case zhi35 => simp only [List.getElem?_toArray, List.getElem?_cons_zero, List.getElem?_cons_succ]; rfl
  case zwa35 => rfl
  case zy35 => intro wz hz; obtain ⟨z1, z2, z3⟩ := hz; go_simp <;> rfl
  case zq35 => exact fun _ _ _ h => h
  simp only [Act.put, List.setIfInBounds_toArray, List.set_cons_zero, List.set_cons_succ]
  refine anyL_take 8 (oi := ?zo36) (v := ?zv36) ?zhi36 (by kernel_rfl) (by kernel_rfl) (by kernel_rfl) (by kernel_rfl) (by kernel_rfl) (by kernel_rfl) ?zq36 (Or.inl ⟨?zwa36, ?zy36⟩) hS ?zrest36
  case zhi36 => simp only [List.getElem?_toArray, List.getElem?_cons_zero, List.getElem?_cons_succ]; rfl
  case zwa36 => rfl
  case zy36 => intro wz hz; obtain ⟨z1, z2, z3⟩ := hz; go_simp <;> rfl
  case zq36 => exact fun _ _ _ h => h
  simp only [Act.put, List.setIfInBounds_toArray, List.set_cons_zero, List.set_cons_succ]
  refine anyL_take 9 (oi := ?zo37) (v := ?zv37) ?zhi37 (by kernel_rfl) (by kernel_rfl) (by kernel_rfl) (by kernel_rfl) (by kernel_rfl) (by kernel_rfl) ?zq37 (Or.inl ⟨?zwa37, ?zy37⟩) hS ?zrest37
  case zhi37 => simp only [List.getElem?_toArray, List.getElem?_cons_zero, List.getElem?_cons_succ]; rfl
  case zwa37 => rfl
  case zy37 => intro wz hz; obtain ⟨z1, z2, z3⟩ := hz; go_simp <;> rfl
  case zq37 => exact fun _ _ _ h => h
  simp only [Act.put, List.setIfInBounds_toArray, List.set_cons_zero, List.set_cons_succ]
  refine anyL_take 10 (oi := ?zo38) (v := ?zv38) ?zhi38 (by kernel_rfl) (by kernel_rfl) (by kernel_rfl) (by kernel_rfl) (by kernel_rfl) (by kernel_rfl) ?zq38 (Or.inl ⟨?zwa38, ?zy38⟩) hS ?zrest38
  case zhi38 => simp only [List.getElem?_toArray, List.getElem?_cons_zero, List.getElem?_cons_succ]; rfl
  case zwa38 => rfl
  case zy38 => intro wz hz; obtain ⟨z1, z2, z3⟩ := hz; go_simp <;> rfl
  case zq38 => exact fun _ _ _ h => h
  simp only [Act.put, List.setIfInBounds_toArray, List.set_cons_zero, List.set_cons_succ]
  refine anyL_take 11 (oi := ?zo39) (v := ?zv39) ?zhi39 (by kernel_rfl) (by kernel_rfl) (by kernel_rfl) (by kernel_rfl) (by kernel_rfl) (by kernel_rfl) ?zq39 (Or.inl ⟨?zwa39, ?zy39⟩) hS ?zrest39
  case zhi39 => simp only [List.getElem?_toArray, List.getElem?_cons_zero, List.getElem?_cons_succ]; rfl
  case zwa39 => rfl
  case zy39 => intro wz hz; obtain ⟨z1, z2, z3⟩ := hz; go_simp <;> rfl
  case zq39 => exact fun _ _ _ h => h
  simp only [Act.put, List.setIfInBounds_toArray, List.set_cons_zero, List.set_cons_succ]
  refine anyL_take 12 (oi := ?zo40) (v := ?zv40) ?zhi40 (by kernel_rfl) (by kernel_rfl) (by kernel_rfl) (by kernel_rfl) (by kernel_rfl) (by kernel_rfl) ?zq40 (Or.inl ⟨?zwa40, ?zy40⟩) hS ?zrest40
  case zhi40 => simp only [List.getElem?_toArray, List.getElem?_cons_zero, List.getElem?_cons_succ]; rfl
  case zwa40 => rfl
  case zy40 => intro wz hz; obtain ⟨z1, z2, z3⟩ := hz; go_simp <;> rfl
  case zq40 => exact fun _ _ _ h => h
  simp only [Act.put, List.setIfInBounds_toArray, List.set_cons_zero, List.set_cons_succ]
  refine anyL_take 13 (oi := ?zo41) (v := ?zv41) ?zhi41 (by kernel_rfl) (by kernel_rfl) (by kernel_rfl) (by kernel_rfl) (by kernel_rfl) (by kernel_rfl) ?zq41 (Or.inl ⟨?zwa41, ?zy41⟩) hS ?zrest41
  case zhi41 => simp only [List.getElem?_toArray, List.getElem?_cons_zero, List.getElem?_cons_succ]; rfl
  case zwa41 => rfl
  case zy41 => intro wz hz; obtain ⟨z1, z2, z3⟩ := hz; go_simp <;> rfl
  case zq41 => exact fun _ _ _ h => h
  simp only [Act.put, List.setIfInBounds_toArray, List.set_cons_zero, List.set_cons_succ]
  refine anyL_take 15 (oi := ?zo42) (v := ?zv42) ?zhi42 (by kernel_rfl) (by kernel_rfl) (by kernel_rfl) (by kernel_rfl) (by kernel_rfl) (by kernel_rfl) ?zq42 (Or.inl ⟨?zwa42, ?zy42⟩) hS ?zrest42
  case zhi42 => simp only [List.getElem?_toArray, List.getElem?_cons_zero, List.getElem?_cons_succ]; rfl
  case zwa42 => rfl
  case zy42 => intro wz hz; obtain ⟨z1, z2, z3⟩ := hz; go_simp <;> rfl
  case zq42 => exact fun _ _ _ h => h
  simp only [Act.put, List.setIfInBounds_toArray, List.set_cons_zero, List.set_cons_succ]
  refine anyL_take 16 (oi := ?zo43) (v := ?zv43) ?zhi43 (by kernel_rfl) (by kernel_rfl) (by kernel_rfl) (by kernel_rfl) (by kernel_rfl) (by kernel_rfl) ?zq43 (Or.inl ⟨?zwa43, ?zy43⟩) hS ?zrest43
  case zhi43 => simp only [List.getElem?_toArray, List.getElem?_cons_zero, List.getElem?_cons_succ]; rfl
  case zwa43 => rfl
  case zy43 => intro wz hz; obtain ⟨z1, z2, z3⟩ := hz; go_simp <;> rfl
  case zq43 => exact fun _ _ _ h => h
  simp only [Act.put, List.setIfInBounds_toArray, List.set_cons_zero, List.set_cons_succ]
  refine anyL_take 17 (oi := ?zo44) (v := ?zv44) ?zhi44 (by kernel_rfl) (by kernel_rfl) (by kernel_rfl) (by kernel_rfl) (by kernel_rfl) (by kernel_rfl) ?zq44 (Or.inl ⟨?zwa44, ?zy44⟩) hS ?zrest44
  case zhi44 => simp only [List.getElem?_toArray, List.getElem?_cons_zero, List.getElem?_cons_succ]; rfl
  case zwa44 => rfl
  case zy44 => intro wz hz; obtain ⟨z1, z2, z3⟩ := hz; go_simp <;> rfl
  case zq44 => exact fun _ _ _ h => h
  simp only [Act.put, List.setIfInBounds_toArray, List.set_cons_zero, List.set_cons_succ]
  refine anyL_take 18 (oi := ?zo45) (v := ?zv45) ?zhi45 (by kernel_rfl) (by kernel_rfl) (by kernel_rfl) (by kernel_rfl) (by kernel_rfl) (by kernel_rfl) ?zq45 (Or.inl ⟨?zwa45, ?zy45⟩) hS ?zrest45
  case zhi45 => simp only [List.getElem?_toArray, List.getElem?_cons_zero, List.getElem?_cons_succ]; rfl
  case zwa45 => rfl
  case zy45 => intro wz hz; obtain ⟨z1, z2, z3⟩ := hz; go_simp <;> rfl
  case zq45 => exact fun _ _ _ h => h
  simp only [Act.put, List.setIfInBounds_toArray, List.set_cons_zero, List.set_cons_succ]
  refine anyL_take 19 (oi := ?zo46) (v := ?zv46) ?zhi46 (by kernel_rfl) (by kernel_rfl) (by kernel_rfl) (by kernel_rfl) (by kernel_rfl) (by kernel_rfl) ?zq46 (Or.inl ⟨?zwa46, ?zy46⟩) hS ?zrest46
  case zhi46 => simp only [List.getElem?_toArray, List.getElem?_cons_zero, List.getElem?_cons_succ]; rfl
  case zwa46 => rfl
  case zy46 => intro wz hz; obtain ⟨z1, z2, z3⟩ := hz; go_simp <;> rfl
  case zq46 => exact fun _ _ _ h => h
  simp only [Act.put, List.setIfInBounds_toArray, List.set_cons_zero, List.set_cons_succ]
  refine anyL_one 14 (o := ?zo47) (by kernel_rfl) ?zhi47 (by kernel_rfl) ?zst47
  case zhi47 => simp only [List.getElem?_toArray, List.getElem?_cons_zero, List.getElem?_cons_succ]; rfl
  intro K hK
  go_simp
  refine C2.out.mono ?_
  rintro r w2 ⟨rfl, hB2, hR2⟩
  have P2 := HP1.out.drew.read hB2 hR2
  have HR2 := hide (HR1.out.trans ((Rd.of_read ((Read.refl w1 ub 0).drewN 1)).trans (Rd.of_read hR2)))
  have HP2 := hide P2
  refine hK.out _ _ ⟨P2.c5, P2.c6, P2.c7⟩ (fun hS2 => ?_)
  clear hK K hS P2 hB2 hR2 HP1 HR1 C2 c5 c6 c7
  refine anyL_one 20 (o := ?zo48) (by kernel_rfl) ?zhi48 (by kernel_rfl) ?zst48
  case zhi48 => simp only [List.getElem?_toArray, List.getElem?_cons_zero, List.getElem?_cons_succ]; rfl
  intro K hK
  go_simp
  refine (C3.out _).mono ?_
  rintro r w3 ⟨rfl, hw3⟩
  have P3 : UP w3 ub s { u1 with pos := p2, st := q2 } := by rw [hw3]; exact HP2.out.alloc _
  have HR3 : Hid (Rd w w3 ub 0) := by rw [hw3]; exact HR2.out.alloc _
  have e5 := P3.c5
  have f5 := P3.fr 5
  have HP3 := hide P3
  refine hK.out _ _ ⟨P3.c5, P3.c6, P3.c7⟩ (fun hS3 => ?_)
  clear hK K hS2 P3 HP2 HR2 C3 hw3
  refine anyL_take 21 (oi := ?zo49) (v := ?zv49) ?zhi49 (by kernel_rfl) (by kernel_rfl) (by kernel_rfl) (by kernel_rfl) (by kernel_rfl) (by kernel_rfl) ?zq49 (Or.inl ⟨?zwa49, ?zy49⟩) hS3 ?zrest49
  case zhi49 => simp only [List.getElem?_toArray, List.getElem?_cons_zero, List.getElem?_cons_succ]; rfl
  case zwa49 => rfl
  case zy49 => intro wz hz; obtain ⟨z1, z2, z3⟩ := hz; go_simp <;> rfl
  case zq49 => exact fun _ _ _ h => h
  simp only [Act.put, List.setIfInBounds_toArray, List.set_cons_zero, List.set_cons_succ]
  refine anyL_take 22 (oi := ?zo50) (v := ?zv50) ?zhi50 (by kernel_rfl) (by kernel_rfl) (by kernel_rfl) (by kernel_rfl) (by kernel_rfl) (by kernel_rfl) ?zq50 (Or.inl ⟨?zwa50, ?zy50⟩) hS3 ?zrest50
  case zhi50 => simp only [List.getElem?_toArray, List.getElem?_cons_zero, List.getElem?_cons_succ]; rfl
  case zwa50 => rfl
  case zy50 => intro wz hz; obtain ⟨z1, z2, z3⟩ := hz; go_simp <;> rfl
  case zq50 => exact fun _ _ _ h => h
  simp only [Act.put, List.setIfInBounds_toArray, List.set_cons_zero, List.set_cons_succ]
  refine anyL_take 23 (oi := ?zo51) (v := ?zv51) ?zhi51 (by kernel_rfl) (by kernel_rfl) (by kernel_rfl) (by kernel_rfl) (by kernel_rfl) (by kernel_rfl) ?zq51 (Or.inl ⟨?zwa51, ?zy51⟩) hS3 ?zrest51
  case zhi51 => simp only [List.getElem?_toArray, List.getElem?_cons_zero, List.getElem?_cons_succ]; rfl
  case zwa51 => rfl
  case zy51 => intro wz hz; obtain ⟨z1, z2, z3⟩ := hz; go_simp <;> rfl
  case zq51 => exact fun _ _ _ h => h
  simp only [Act.put, List.setIfInBounds_toArray, List.set_cons_zero, List.set_cons_succ]
  refine anyL_take 24 (oi := ?zo52) (v := ?zv52) ?zhi52 (by kernel_rfl) (by kernel_rfl) (by kernel_rfl) (by kernel_rfl) (by kernel_rfl) (by kernel_rfl) ?zq52 (Or.inl ⟨?zwa52, ?zy52⟩) hS3 ?zrest52
  case zhi52 => simp only [List.getElem?_toArray, List.getElem?_cons_zero, List.getElem?_cons_succ]; rfl
  case zwa52 => rfl
  case zy52 => intro wz hz; obtain ⟨z1, z2, z3⟩ := hz; go_simp <;> rfl
  case zq52 => exact fun _ _ _ h => h
  simp only [Act.put, List.setIfInBounds_toArray, List.set_cons_zero, List.set_cons_succ]
  refine anyL_take 25 (oi := ?zo53) (v := ?zv53) ?zhi53 (by kernel_rfl) (by kernel_rfl) (by kernel_rfl) (by kernel_rfl) (by kernel_rfl) (by kernel_rfl) ?zq53 (Or.inl ⟨?zwa53, ?zy53⟩) hS3 ?zrest53
  case zhi53 => simp only [List.getElem?_toArray, List.getElem?_cons_zero, List.getElem?_cons_succ]; rfl
  case zwa53 => rfl
  case zy53 => intro wz hz; obtain ⟨z1, z2, z3⟩ := hz; go_simp <;> rfl
  case zq53 => exact fun _ _ _ h => h
  simp only [Act.put, List.setIfInBounds_toArray, List.set_cons_zero, List.set_cons_succ]
  refine anyL_last 26 (o := ?zo1) (by kernel_rfl) ?zhi1 (by kernel_rfl) (by kernel_rfl) ?zst1
  case zhi1 => simp only [List.getElem?_toArray, List.getElem?_cons_zero, List.getElem?_cons_succ]; rfl
  intro K hK
  go_simp
  refine hK.out _ _ ?_
  clear hK K hS3
  have HP4 := hide (HP3.out.setB Y)
  have HR4 := hide (HR3.out.set_own (o := 5) (.int .u64 Y))
  clear HP3 HR3 hxor hshl
  go_wp2
  go_end0
  exact ⟨rfl, by rw [← HU.out, HE.out]; exact HP4.out, HR4.out⟩

set_option maxHeartbeats 400000 in
theorem takeBits_zero (ub : Nat) (s : ByteArray) (u : US) (w : World) (H : UP w ub s u) (hu : UOk s u) (hs : s.size ≤ 140737488355328) (h1 : (mk s 2 u.pos u.st).1 = 0) :
    Calls Tryz.prog 152 #[.pointer (some ⟨ub, 0, none⟩)] w fun e w' => e = .returned (.tuple #[]) ∧ UP w' ub s { u with pos := (mk s 2 u.pos u.st).2.1, st := (mk s 2 u.pos u.st).2.2 } ∧ Rd w w' ub 0 := by
  have C1 := hide (takeMark_any ub 0 u.pos u.st 2 s w H.br hs hu.hpos (by omega))
  generalize mk s 2 u.pos u.st = m at *
  obtain ⟨k, p1, q1⟩ := m
  simp only at C1 h1
  subst h1
  have HP := hide H
  clear H hu
  go_enter Tryz.func152, Tryz.ntmps152
  go_wp2_with fail
  refine C1.out.mono ?_
  rintro e w1 ⟨rfl, hB1, hR1⟩
  have HP1 := hide (HP.out.read hB1 hR1)
  have HR1 := hide (Rd.of_read hR1)
  clear HP C1 hB1 hR1
  go_wp2
  go_end0
  exact ⟨rfl, HP1.out, HR1.out⟩
theorem takeBits_any (ub : Nat) (s : ByteArray) (u : US) (w : World) (H : UP w ub s u) (hu : UOk s u) (hs : s.size ≤ 140737488355328) :
    Calls Tryz.prog 152 #[.pointer (some ⟨ub, 0, none⟩)] w fun e w' => e = .returned (.tuple #[]) ∧ UP w' ub s (bitU s u) ∧ Rd w w' ub 0 := by
  have hle := mk_le s 2 u.pos u.st
  by_cases h0 : (mk s 2 u.pos u.st).1 = 0
  · have e : bitU s u = { u with pos := (mk s 2 u.pos u.st).2.1, st := (mk s 2 u.pos u.st).2.2 } := if_pos h0
    rw [e]; exact takeBits_zero ub s u w H hu hs h0
  · by_cases h2 : (mk s 2 u.pos u.st).1 = 2
    · have e : bitU s u = inU s (winU s { u with pos := (mk s 2 u.pos u.st).2.1, st := (mk s 2 u.pos u.st).2.2 }) := (if_neg h0).trans (if_pos h2)
      rw [e]; exact takeBits_two ub s u w H hu hs h2
    · have e : bitU s u = inU s { u with pos := (mk s 2 u.pos u.st).2.1, st := (mk s 2 u.pos u.st).2.2 } := (if_neg h0).trans (if_neg h2)
      rw [e]; exact takeBits_one ub s u w H hu hs (by omega)
end Go.Proofs.YtamcclcbmenjdaaGreatDoor

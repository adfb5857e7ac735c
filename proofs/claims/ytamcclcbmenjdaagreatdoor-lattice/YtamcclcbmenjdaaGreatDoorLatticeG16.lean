/- 'choirkeep.Lattice', for any three lists of raw samples: joins do not hang on order, grouping and how often; with bytes and without it is the same. The first form's statement and its card: no condition beside the row's own. -/
import Derived.Test.YtamcclcbmenjdaaGreatDoorLatticeG15
import Derived.Test.YtamcclcbmenjdaaGreatDoorLatticeG14
/- The unpacker: takeBits. -/
namespace Go.Proofs.YtamcclcbmenjdaaGreatDoor
open Go.RowKit Go.Lib

theorem UOk.inn {s : ByteArray} {u : US} (h : UOk s u) : UOk s (inU s u) := by
  have hx := tk_lt s u.pos u.st u.z
  have haz := h.haz
  have hb := h.hb
  refine ⟨h.ht, h.hd, ?_, h.haz, tk_pos _ _ _ _ h.hpos⟩
  have h1 : (tk s u.pos u.st u.z).1 * 2 ^ (64 - u.a - u.z) < 2 ^ 64 := by
    have h2 : (tk s u.pos u.st u.z).1 * 2 ^ (64 - u.a - u.z) < 2 ^ u.z * 2 ^ (64 - u.a - u.z) := Nat.mul_lt_mul_of_pos_right hx (Nat.two_pow_pos _)
    rw [← Nat.pow_add] at h2
    exact Nat.lt_of_lt_of_le h2 (Nat.pow_le_pow_right (by decide) (by omega))
  have h3 : u.b ^^^ ((tk s u.pos u.st u.z).1 * 2 ^ (64 - u.a - u.z)) < 2 ^ 64 := Nat.xor_lt_two_pow (by omega) h1
  show u.b ^^^ ((tk s u.pos u.st u.z).1 * 2 ^ (64 - u.a - u.z)) ≤ _
  omega
theorem uokMark {s : ByteArray} {u : US} (h : UOk s u) (r : Nat) (q : Nat) : UOk s { u with pos := (mk s r u.pos u.st).2.1, st := q } := ⟨h.ht, h.hd, h.hb, h.haz, mk_pos _ _ _ _ h.hpos⟩
theorem UOk.bit {s : ByteArray} {u : US} (h : UOk s u) : UOk s (bitU s u) := by
  unfold bitU
  simp only
  split
  · exact uokMark h 2 (Go.Proofs.YtamcclcbmenjdaaGreatDoor.mk s 2 u.pos u.st).2.2
  · split
    · exact (uokMark h 2 (Go.Proofs.YtamcclcbmenjdaaGreatDoor.mk s 2 u.pos u.st).2.2).win.inn
    · exact (uokMark h 2 (Go.Proofs.YtamcclcbmenjdaaGreatDoor.mk s 2 u.pos u.st).2.2).inn
theorem xor64 (a b : Nat) (ha : a < 2 ^ 64) (hb : b < 2 ^ 64) : Go.bits .xor .u64 (a : Int) (b : Int) = ((a ^^^ b : Nat) : Int) := by
  have hx : a ^^^ b < 2 ^ 64 := Nat.xor_lt_two_pow ha hb
  have h1 : (BitVec.ofInt 64 (a : Int)).toNat = a := by
    rw [BitVec.ofInt_natCast, BitVec.toNat_ofNat]; exact Nat.mod_eq_of_lt (by omega)
  have h2 : (BitVec.ofInt 64 (b : Int)).toNat = b := by
    rw [BitVec.ofInt_natCast, BitVec.toNat_ofNat]; exact Nat.mod_eq_of_lt (by omega)
  show IntKind.u64.wrap ((BitVec.ofInt 64 (a : Int) ^^^ BitVec.ofInt 64 (b : Int)).toNat : Int) = _
  rw [BitVec.toNat_xor, h1, h2, IntKind.wrap_u64]
  omega

set_option linter.unusedSimpArgs false in
set_option maxRecDepth 100000 in
set_option maxHeartbeats 2000000 in
theorem takeBits_one (ub : Nat) (s : ByteArray) (u : US) (w : World) (H : UP w ub s u) (hu : UOk s u) (hs : s.size ≤ 140737488355328) (h1 : (mk s 2 u.pos u.st).1 = 1) :
    Calls Tryz.prog 152 #[.pointer (some ⟨ub, 0, none⟩)] w fun e w' => e = .returned (.tuple #[]) ∧ UP w' ub s (inU s { u with pos := (mk s 2 u.pos u.st).2.1, st := (mk s 2 u.pos u.st).2.2 }) ∧ Rd w w' ub 0 := by
  have C1 := hide (takeMark_any ub 0 u.pos u.st 2 s w H.br hs hu.hpos (by omega))
  have hu1 := uokMark hu 2 (mk s 2 u.pos u.st).2.2
  generalize mk s 2 u.pos u.st = m at *
  obtain ⟨k, p1, q1⟩ := m
  simp only at C1 h1 hu1
  subst h1
  have HP := hide H
  clear H hu
  go_enter Tryz.func152, Tryz.ntmps152
  go_wp2_with fail
  refine C1.out.mono ?_
  rintro e w1 ⟨rfl, hB1, hR1⟩
  have P1 := HP.out.read hB1 hR1
  have HR1 := hide (Rd.of_read hR1)
  clear HP C1 hB1 hR1
  obtain ⟨u1, hU⟩ : ∃ u1 : US, u1 = { u with pos := p1, st := q1 } := ⟨_, rfl⟩
  rw [← hU] at hu1 P1
  have HU := hide hU
  clear hU
  have c5 := P1.c5
  have c6 := P1.c6
  have c7 := P1.c7
  have hp := P1.hp
  have C2 := hide (take_any ub 0 u1.pos u1.st u1.z s w1.drew P1.drew.br hs hu1.hpos (by have := hu1.haz; omega))
  have hx := tk_lt s u1.pos u1.st u1.z
  have hbn := hu1.inn.hb
  have hb5 := hu1.hb
  have haz := hu1.haz
  have HE : Hid (inU s u1 = { u1 with pos := (tk s u1.pos u1.st u1.z).2.1, st := (tk s u1.pos u1.st u1.z).2.2, b := u1.b ^^^ ((tk s u1.pos u1.st u1.z).1 * 2 ^ (64 - u1.a - u1.z)) }) := rfl
  have C3 := hide (fun W => behind_nat u1.a u1.z (64 - u1.a - u1.z) W haz rfl)
  generalize tk s u1.pos u1.st u1.z = t at *
  obtain ⟨x, p2, q2⟩ := t
  simp only at C2 hx HE
  obtain ⟨d, hd⟩ : ∃ d, d = 64 - u1.a - u1.z := ⟨_, rfl⟩
  rw [← hd] at C3 HE
  have hxd : x * 2 ^ d < 2 ^ 64 := by
    have h2 : x * 2 ^ d < 2 ^ u1.z * 2 ^ d := Nat.mul_lt_mul_of_pos_right hx (Nat.two_pow_pos _)
    rw [← Nat.pow_add] at h2
    exact Nat.lt_of_lt_of_le h2 (Nat.pow_le_pow_right (by decide) (by omega))
  have hxor := xor64 u1.b (x * 2 ^ d) (by omega) hxd
  have hshl : IntKind.u64.wrap ((x : Int) * 2 ^ d) = ((x * 2 ^ d : Nat) : Int) := by
    rw [IntKind.wrap_u64, show ((x : Int) * 2 ^ d) = ((x * 2 ^ d : Nat) : Int) by simp]; omega
  have hd64 : d ≤ 64 := by omega
  generalize x * 2 ^ d = X at *
  generalize u1.b ^^^ X = Y at *
  have HP1 := hide P1
  clear P1 hu1 hbn hx hd hxd hb5 haz
  go_wp2_with fail
  refine region_anyL (S := fun w' => w'.cell? ⟨ub, 5, none⟩ = some (.int .u64 (u1.b : Nat)) ∧ w'.cell? ⟨ub, 6, none⟩ = some (.int .i64 (u1.a : Nat)) ∧ w'.cell? ⟨ub, 7, none⟩ = some (.int .i64 (u1.z : Nat))) 26 (by kernel_rfl) ⟨c5, c6, c7⟩ (fun hS => ?_)
  refine anyL_take 0 (oi := ?zo2) (v := ?zv2) ?zhi2 (by kernel_rfl) (by kernel_rfl) (by kernel_rfl) (by kernel_rfl) (by kernel_rfl) (by kernel_rfl) ?zq2 (Or.inl ⟨?zwa2, ?zy2⟩) hS ?zrest2
  case zhi2 => simp only [List.getElem?_toArray, List.getElem?_cons_zero, List.getElem?_cons_succ]; rfl
  case zwa2 => rfl
  case zy2 => intro wz hz; obtain ⟨z1, z2, z3⟩ := hz; go_simp <;> rfl
  case zq2 => exact fun _ _ _ h => h
  simp only [Act.put, List.setIfInBounds_toArray, List.set_cons_zero, List.set_cons_succ]
  refine anyL_take 1 (oi := ?zo3) (v := ?zv3) ?zhi3 (by kernel_rfl) (by kernel_rfl) (by kernel_rfl) (by kernel_rfl) (by kernel_rfl) (by kernel_rfl) ?zq3 (Or.inl ⟨?zwa3, ?zy3⟩) hS ?zrest3
  case zhi3 => simp only [List.getElem?_toArray, List.getElem?_cons_zero, List.getElem?_cons_succ]; rfl
  case zwa3 => rfl
  case zy3 => intro wz hz; obtain ⟨z1, z2, z3⟩ := hz; go_simp <;> rfl
  case zq3 => exact fun _ _ _ h => h
  simp only [Act.put, List.setIfInBounds_toArray, List.set_cons_zero, List.set_cons_succ]
  refine anyL_take 2 (oi := ?zo4) (v := ?zv4) ?zhi4 (by kernel_rfl) (by kernel_rfl) (by kernel_rfl) (by kernel_rfl) (by kernel_rfl) (by kernel_rfl) ?zq4 (Or.inl ⟨?zwa4, ?zy4⟩) hS ?zrest4
  case zhi4 => simp only [List.getElem?_toArray, List.getElem?_cons_zero, List.getElem?_cons_succ]; rfl
  case zwa4 => rfl
  case zy4 => intro wz hz; obtain ⟨z1, z2, z3⟩ := hz; go_simp <;> rfl
  case zq4 => exact fun _ _ _ h => h
  simp only [Act.put, List.setIfInBounds_toArray, List.set_cons_zero, List.set_cons_succ]
  refine anyL_take 3 (oi := ?zo5) (v := ?zv5) ?zhi5 (by kernel_rfl) (by kernel_rfl) (by kernel_rfl) (by kernel_rfl) (by kernel_rfl) (by kernel_rfl) ?zq5 (Or.inl ⟨?zwa5, ?zy5⟩) hS ?zrest5
  case zhi5 => simp only [List.getElem?_toArray, List.getElem?_cons_zero, List.getElem?_cons_succ]; rfl
  case zwa5 => rfl
  case zy5 => intro wz hz; obtain ⟨z1, z2, z3⟩ := hz; go_simp <;> rfl
  case zq5 => exact fun _ _ _ h => h
  simp only [Act.put, List.setIfInBounds_toArray, List.set_cons_zero, List.set_cons_succ]
  refine anyL_take 4 (oi := ?zo6) (v := ?zv6) ?zhi6 (by kernel_rfl) (by kernel_rfl) (by kernel_rfl) (by kernel_rfl) (by kernel_rfl) (by kernel_rfl) ?zq6 (Or.inl ⟨?zwa6, ?zy6⟩) hS ?zrest6
  case zhi6 => simp only [List.getElem?_toArray, List.getElem?_cons_zero, List.getElem?_cons_succ]; rfl
  case zwa6 => rfl
  case zy6 => intro wz hz; obtain ⟨z1, z2, z3⟩ := hz; go_simp <;> rfl
  case zq6 => exact fun _ _ _ h => h
  simp only [Act.put, List.setIfInBounds_toArray, List.set_cons_zero, List.set_cons_succ]
  refine anyL_take 5 (oi := ?zo7) (v := ?zv7) ?zhi7 (by kernel_rfl) (by kernel_rfl) (by kernel_rfl) (by kernel_rfl) (by kernel_rfl) (by kernel_rfl) ?zq7 (Or.inl ⟨?zwa7, ?zy7⟩) hS ?zrest7
  case zhi7 => simp only [List.getElem?_toArray, List.getElem?_cons_zero, List.getElem?_cons_succ]; rfl
  case zwa7 => rfl
  case zy7 => intro wz hz; obtain ⟨z1, z2, z3⟩ := hz; go_simp <;> rfl
  case zq7 => exact fun _ _ _ h => h
  simp only [Act.put, List.setIfInBounds_toArray, List.set_cons_zero, List.set_cons_succ]
  refine anyL_take 6 (oi := ?zo8) (v := ?zv8) ?zhi8 (by kernel_rfl) (by kernel_rfl) (by kernel_rfl) (by kernel_rfl) (by kernel_rfl) (by kernel_rfl) ?zq8 (Or.inl ⟨?zwa8, ?zy8⟩) hS ?zrest8
  case zhi8 => simp only [List.getElem?_toArray, List.getElem?_cons_zero, List.getElem?_cons_succ]; rfl
  case zwa8 => rfl
  case zy8 => intro wz hz; obtain ⟨z1, z2, z3⟩ := hz; go_simp <;> rfl
  case zq8 => exact fun _ _ _ h => h
  simp only [Act.put, List.setIfInBounds_toArray, List.set_cons_zero, List.set_cons_succ]
  refine anyL_take 7 (oi := ?zo9) (v := ?zv9) ?zhi9 (by kernel_rfl) (by kernel_rfl) (by kernel_rfl) (by kernel_rfl) (by kernel_rfl) (by kernel_rfl) ?zq9 (Or.inl ⟨?zwa9, ?zy9⟩) hS ?zrest9
  case zhi9 => simp only [List.getElem?_toArray, List.getElem?_cons_zero, List.getElem?_cons_succ]; rfl
  case zwa9 => rfl
  case zy9 => intro wz hz; obtain ⟨z1, z2, z3⟩ := hz; go_simp <;> rfl
  case zq9 => exact fun _ _ _ h => h
  simp only [Act.put, List.setIfInBounds_toArray, List.set_cons_zero, List.set_cons_succ]
  refine anyL_take 8 (oi := ?zo10) (v := ?zv10) ?zhi10 (by kernel_rfl) (by kernel_rfl) (by kernel_rfl) (by kernel_rfl) (by kernel_rfl) (by kernel_rfl) ?zq10 (Or.inl ⟨?zwa10, ?zy10⟩) hS ?zrest10
  case zhi10 => simp only [List.getElem?_toArray, List.getElem?_cons_zero, List.getElem?_cons_succ]; rfl
  case zwa10 => rfl
  case zy10 => intro wz hz; obtain ⟨z1, z2, z3⟩ := hz; go_simp <;> rfl
  case zq10 => exact fun _ _ _ h => h
  simp only [Act.put, List.setIfInBounds_toArray, List.set_cons_zero, List.set_cons_succ]
  refine anyL_take 9 (oi := ?zo11) (v := ?zv11) ?zhi11 (by kernel_rfl) (by kernel_rfl) (by kernel_rfl) (by kernel_rfl) (by kernel_rfl) (by kernel_rfl) ?zq11 (Or.inl ⟨?zwa11, ?zy11⟩) hS ?zrest11
  case zhi11 => simp only [List.getElem?_toArray, List.getElem?_cons_zero, List.getElem?_cons_succ]; rfl
  case zwa11 => rfl
  case zy11 => intro wz hz; obtain ⟨z1, z2, z3⟩ := hz; go_simp <;> rfl
  case zq11 => exact fun _ _ _ h => h
  simp only [Act.put, List.setIfInBounds_toArray, List.set_cons_zero, List.set_cons_succ]
  refine anyL_take 10 (oi := ?zo12) (v := ?zv12) ?zhi12 (by kernel_rfl) (by kernel_rfl) (by kernel_rfl) (by kernel_rfl) (by kernel_rfl) (by kernel_rfl) ?zq12 (Or.inl ⟨?zwa12, ?zy12⟩) hS ?zrest12
  case zhi12 => simp only [List.getElem?_toArray, List.getElem?_cons_zero, List.getElem?_cons_succ]; rfl
  case zwa12 => rfl
  case zy12 => intro wz hz; obtain ⟨z1, z2, z3⟩ := hz; go_simp <;> rfl
  case zq12 => exact fun _ _ _ h => h
  simp only [Act.put, List.setIfInBounds_toArray, List.set_cons_zero, List.set_cons_succ]
  refine anyL_take 11 (oi := ?zo13) (v := ?zv13) ?zhi13 (by kernel_rfl) (by kernel_rfl) (by kernel_rfl) (by kernel_rfl) (by kernel_rfl) (by kernel_rfl) ?zq13 (Or.inl ⟨?zwa13, ?zy13⟩) hS ?zrest13
  case zhi13 => simp only [List.getElem?_toArray, List.getElem?_cons_zero, List.getElem?_cons_succ]; rfl
  case zwa13 => rfl
  case zy13 => intro wz hz; obtain ⟨z1, z2, z3⟩ := hz; go_simp <;> rfl
  case zq13 => exact fun _ _ _ h => h
  simp only [Act.put, List.setIfInBounds_toArray, List.set_cons_zero, List.set_cons_succ]
  refine anyL_take 12 (oi := ?zo14) (v := ?zv14) ?zhi14 (by kernel_rfl) (by kernel_rfl) (by kernel_rfl) (by kernel_rfl) (by kernel_rfl) (by kernel_rfl) ?zq14 (Or.inl ⟨?zwa14, ?zy14⟩) hS ?zrest14
  case zhi14 => simp only [List.getElem?_toArray, List.getElem?_cons_zero, List.getElem?_cons_succ]; rfl
  case zwa14 => rfl
  case zy14 => intro wz hz; obtain ⟨z1, z2, z3⟩ := hz; go_simp <;> rfl
  case zq14 => exact fun _ _ _ h => h
  simp only [Act.put, List.setIfInBounds_toArray, List.set_cons_zero, List.set_cons_succ]
  refine anyL_take 13 (oi := ?zo15) (v := ?zv15) ?zhi15 (by kernel_rfl) (by kernel_rfl) (by kernel_rfl) (by kernel_rfl) (by kernel_rfl) (by kernel_rfl) ?zq15 (Or.inl ⟨?zwa15, ?zy15⟩) hS ?zrest15
  case zhi15 => simp only [List.getElem?_toArray, List.getElem?_cons_zero, List.getElem?_cons_succ]; rfl
  case zwa15 => rfl
  case zy15 => intro wz hz; obtain ⟨z1, z2, z3⟩ := hz; go_simp <;> rfl
  case zq15 => exact fun _ _ _ h => h
  simp only [Act.put, List.setIfInBounds_toArray, List.set_cons_zero, List.set_cons_succ]
  refine anyL_take 15 (oi := ?zo16) (v := ?zv16) ?zhi16 (by kernel_rfl) (by kernel_rfl) (by kernel_rfl) (by kernel_rfl) (by kernel_rfl) (by kernel_rfl) ?zq16 (Or.inl ⟨?zwa16, ?zy16⟩) hS ?zrest16
  case zhi16 => simp only [List.getElem?_toArray, List.getElem?_cons_zero, List.getElem?_cons_succ]; rfl
  case zwa16 => rfl
  case zy16 => intro wz hz; obtain ⟨z1, z2, z3⟩ := hz; go_simp <;> rfl
  case zq16 => exact fun _ _ _ h => h
  simp only [Act.put, List.setIfInBounds_toArray, List.set_cons_zero, List.set_cons_succ]
  refine anyL_take 16 (oi := ?zo17) (v := ?zv17) ?zhi17 (by kernel_rfl) (by kernel_rfl) (by kernel_rfl) (by kernel_rfl) (by kernel_rfl) (by kernel_rfl) ?zq17 (Or.inl ⟨?zwa17, ?zy17⟩) hS ?zrest17
  case zhi17 => simp only [List.getElem?_toArray, List.getElem?_cons_zero, List.getElem?_cons_succ]; rfl
  case zwa17 => rfl
  case zy17 => intro wz hz; obtain ⟨z1, z2, z3⟩ := hz; go_simp <;> rfl
  case zq17 => exact fun _ _ _ h => h
  simp only [Act.put, List.setIfInBounds_toArray, List.set_cons_zero, List.set_cons_succ]
  refine anyL_take 17 (oi := ?zo18) (v := ?zv18) ?zhi18 (by kernel_rfl) (by kernel_rfl) (by kernel_rfl) (by kernel_rfl) (by kernel_rfl) (by kernel_rfl) ?zq18 (Or.inl ⟨?zwa18, ?zy18⟩) hS ?zrest18
  case zhi18 => simp only [List.getElem?_toArray, List.getElem?_cons_zero, List.getElem?_cons_succ]; rfl
  case zwa18 => rfl
  case zy18 => intro wz hz; obtain ⟨z1, z2, z3⟩ := hz; go_simp <;> rfl
  case zq18 => exact fun _ _ _ h => h
  simp only [Act.put, List.setIfInBounds_toArray, List.set_cons_zero, List.set_cons_succ]
  refine anyL_take 18 (oi := ?zo19) (v := ?zv19) ?zhi19 (by kernel_rfl) (by kernel_rfl) (by kernel_rfl) (by kernel_rfl) (by kernel_rfl) (by kernel_rfl) ?zq19 (Or.inl ⟨?zwa19, ?zy19⟩) hS ?zrest19
  case zhi19 => simp only [List.getElem?_toArray, List.getElem?_cons_zero, List.getElem?_cons_succ]; rfl
  case zwa19 => rfl
  case zy19 => intro wz hz; obtain ⟨z1, z2, z3⟩ := hz; go_simp <;> rfl
  case zq19 => exact fun _ _ _ h => h
  simp only [Act.put, List.setIfInBounds_toArray, List.set_cons_zero, List.set_cons_succ]
  refine anyL_take 19 (oi := ?zo20) (v := ?zv20) ?zhi20 (by kernel_rfl) (by kernel_rfl) (by kernel_rfl) (by kernel_rfl) (by kernel_rfl) (by kernel_rfl) ?zq20 (Or.inl ⟨?zwa20, ?zy20⟩) hS ?zrest20
  case zhi20 => simp only [List.getElem?_toArray, List.getElem?_cons_zero, List.getElem?_cons_succ]; rfl
  case zwa20 => rfl
  case zy20 => intro wz hz; obtain ⟨z1, z2, z3⟩ := hz; go_simp <;> rfl
  case zq20 => exact fun _ _ _ h => h
  simp only [Act.put, List.setIfInBounds_toArray, List.set_cons_zero, List.set_cons_succ]
  refine anyL_one 14 (o := ?zo21) (by kernel_rfl) ?zhi21 (by kernel_rfl) ?zst21
  case zhi21 => simp only [List.getElem?_toArray, List.getElem?_cons_zero, List.getElem?_cons_succ]; rfl
  intro K hK
  go_simp
  refine C2.out.mono ?_
  rintro r w2 ⟨rfl, hB2, hR2⟩
  have P2 := HP1.out.drew.read hB2 hR2
  have HR2 := hide (HR1.out.trans ((Rd.of_read ((Read.refl w1 ub 0).drewN 1)).trans (Rd.of_read hR2)))
  have HP2 := hide P2
  refine hK.out _ _ ⟨P2.c5, P2.c6, P2.c7⟩ (fun hS2 => ?_)
  clear hK K hS P2 hB2 hR2 HP1 HR1 C2 c5 c6 c7
  refine anyL_one 20 (o := ?zo22) (by kernel_rfl) ?zhi22 (by kernel_rfl) ?zst22
  case zhi22 => simp only [List.getElem?_toArray, List.getElem?_cons_zero, List.getElem?_cons_succ]; rfl
  intro K hK
  go_simp
  refine (C3.out _).mono ?_
  rintro r w3 ⟨rfl, hw3⟩
  have P3 : UP w3 ub s { u1 with pos := p2, st := q2 } := by rw [hw3]; exact HP2.out.alloc _
  have HR3 : Hid (Rd w w3 ub 0) := by rw [hw3]; exact HR2.out.alloc _
  have e5 := P3.c5
  have f5 := P3.fr 5
  have HP3 := hide P3
  refine hK.out _ _ ⟨P3.c5, P3.c6, P3.c7⟩ (fun hS3 => ?_)
  clear hK K hS2 P3 HP2 HR2 C3 hw3
  refine anyL_take 21 (oi := ?zo23) (v := ?zv23) ?zhi23 (by kernel_rfl) (by kernel_rfl) (by kernel_rfl) (by kernel_rfl) (by kernel_rfl) (by kernel_rfl) ?zq23 (Or.inl ⟨?zwa23, ?zy23⟩) hS3 ?zrest23
  case zhi23 => simp only [List.getElem?_toArray, List.getElem?_cons_zero, List.getElem?_cons_succ]; rfl
  case zwa23 => rfl
  case zy23 => intro wz hz; obtain ⟨z1, z2, z3⟩ := hz; go_simp <;> rfl
  case zq23 => exact fun _ _ _ h => h
  simp only [Act.put, List.setIfInBounds_toArray, List.set_cons_zero, List.set_cons_succ]
  refine anyL_take 22 (oi := ?zo24) (v := ?zv24) ?zhi24 (by kernel_rfl) (by kernel_rfl) (by kernel_rfl) (by kernel_rfl) (by kernel_rfl) (by kernel_rfl) ?zq24 (Or.inl ⟨?zwa24, ?zy24⟩) hS3 ?zrest24
  case zhi24 => simp only [List.getElem?_toArray, List.getElem?_cons_zero, List.getElem?_cons_succ]; rfl
  case zwa24 => rfl
  case zy24 => intro wz hz; obtain ⟨z1, z2, z3⟩ := hz; go_simp <;> rfl
  case zq24 => exact fun _ _ _ h => h
  simp only [Act.put, List.setIfInBounds_toArray, List.set_cons_zero, List.set_cons_succ]
  refine anyL_take 23 (oi := ?zo25) (v := ?zv25) ?zhi25 (by kernel_rfl) (by kernel_rfl) (by kernel_rfl) (by kernel_rfl) (by kernel_rfl) (by kernel_rfl) ?zq25 (Or.inl ⟨?zwa25, ?zy25⟩) hS3 ?zrest25
  case zhi25 => simp only [List.getElem?_toArray, List.getElem?_cons_zero, List.getElem?_cons_succ]; rfl
  case zwa25 => rfl
  case zy25 => intro wz hz; obtain ⟨z1, z2, z3⟩ := hz; go_simp <;> rfl
  case zq25 => exact fun _ _ _ h => h
  simp only [Act.put, List.setIfInBounds_toArray, List.set_cons_zero, List.set_cons_succ]
  refine anyL_take 24 (oi := ?zo26) (v := ?zv26) ?zhi26 (by kernel_rfl) (by kernel_rfl) (by kernel_rfl) (by kernel_rfl) (by kernel_rfl) (by kernel_rfl) ?zq26 (Or.inl ⟨?zwa26, ?zy26⟩) hS3 ?zrest26
  case zhi26 => simp only [List.getElem?_toArray, List.getElem?_cons_zero, List.getElem?_cons_succ]; rfl
  case zwa26 => rfl
  case zy26 => intro wz hz; obtain ⟨z1, z2, z3⟩ := hz; go_simp <;> rfl
  case zq26 => exact fun _ _ _ h => h
  simp only [Act.put, List.setIfInBounds_toArray, List.set_cons_zero, List.set_cons_succ]
  refine anyL_take 25 (oi := ?zo27) (v := ?zv27) ?zhi27 (by kernel_rfl) (by kernel_rfl) (by kernel_rfl) (by kernel_rfl) (by kernel_rfl) (by kernel_rfl) ?zq27 (Or.inl ⟨?zwa27, ?zy27⟩) hS3 ?zrest27
  case zhi27 => simp only [List.getElem?_toArray, List.getElem?_cons_zero, List.getElem?_cons_succ]; rfl
  case zwa27 => rfl
  case zy27 => intro wz hz; obtain ⟨z1, z2, z3⟩ := hz; go_simp <;> rfl
  case zq27 => exact fun _ _ _ h => h
  simp only [Act.put, List.setIfInBounds_toArray, List.set_cons_zero, List.set_cons_succ]
  refine anyL_last 26 (o := ?zo1) (by kernel_rfl) ?zhi1 (by kernel_rfl) (by kernel_rfl) ?zst1
  case zhi1 => simp only [List.getElem?_toArray, List.getElem?_cons_zero, List.getElem?_cons_succ]; rfl
  intro K hK
  go_simp
  refine hK.out _ _ ?_
  clear hK K hS3
  have HP4 := hide (HP3.out.setB Y)
  have HR4 := hide (HR3.out.set_own (o := 5) (.int .u64 Y))
  clear HP3 HR3 hxor hshl
  go_wp2
  go_end0
  exact ⟨rfl, by rw [← HU.out, HE.out]; exact HP4.out, HR4.out⟩

set_option linter.unusedSimpArgs false in
set_option maxRecDepth 100000 in
set_option maxHeartbeats 2000000 in
theorem takeBits_two (ub : Nat) (s : ByteArray) (u : US) (w : World) (H : UP w ub s u) (hu : UOk s u) (hs : s.size ≤ 140737488355328) (h1 : (mk s 2 u.pos u.st).1 = 2) :
    Calls Tryz.prog 152 #[.pointer (some ⟨ub, 0, none⟩)] w fun e w' => e = .returned (.tuple #[]) ∧ UP w' ub s (inU s (winU s { u with pos := (mk s 2 u.pos u.st).2.1, st := (mk s 2 u.pos u.st).2.2 })) ∧ Rd w w' ub 0 := by
  have C1 := hide (takeMark_any ub 0 u.pos u.st 2 s w H.br hs hu.hpos (by omega))
  have hu1 := uokMark hu 2 (mk s 2 u.pos u.st).2.2
  generalize mk s 2 u.pos u.st = m at *
  obtain ⟨k, p1, q1⟩ := m
  simp only at C1 h1 hu1
  subst h1
  have HP := hide H
  clear H hu
  go_enter Tryz.func152, Tryz.ntmps152
  go_wp2_with fail
  refine C1.out.mono ?_
  rintro e w1 ⟨rfl, hB1, hR1⟩
  have P0 := HP.out.read hB1 hR1
  have HR0 := hide (Rd.of_read hR1)
  have C0 := hide (takeWindow_any ub s _ w1 P0 hu1 hs)
  have hu2 := hu1.win
  clear HP C1 hB1 hR1 P0 hu1
  go_wp2_with fail
  refine C0.out.mono ?_
  rintro e w1' ⟨rfl, P1, hR1⟩
  have HR1 := hide (HR0.out.trans hR1)
  obtain ⟨u1, hU⟩ : ∃ u1 : US, u1 = winU s { u with pos := p1, st := q1 } := ⟨_, rfl⟩
  rw [← hU] at hu2 P1
  have HU := hide hU
  have hu1 := hu2
  clear hU hR1 HR0 C0 hu2
  generalize w1' = w1 at *
  have c5 := P1.c5
  have c6 := P1.c6
  have c7 := P1.c7
  have hp := P1.hp
  have C2 := hide (take_any ub 0 u1.pos u1.st u1.z s w1.drew P1.drew.br hs hu1.hpos (by have := hu1.haz; omega))
  have hx := tk_lt s u1.pos u1.st u1.z
  have hbn := hu1.inn.hb
  have hb5 := hu1.hb
  have haz := hu1.haz
  have HE : Hid (inU s u1 = { u1 with pos := (tk s u1.pos u1.st u1.z).2.1, st := (tk s u1.pos u1.st u1.z).2.2, b := u1.b ^^^ ((tk s u1.pos u1.st u1.z).1 * 2 ^ (64 - u1.a - u1.z)) }) := rfl
  have C3 := hide (fun W => behind_nat u1.a u1.z (64 - u1.a - u1.z) W haz rfl)
  generalize tk s u1.pos u1.st u1.z = t at *
  obtain ⟨x, p2, q2⟩ := t
  simp only at C2 hx HE
  obtain ⟨d, hd⟩ : ∃ d, d = 64 - u1.a - u1.z := ⟨_, rfl⟩
  rw [← hd] at C3 HE
  have hxd : x * 2 ^ d < 2 ^ 64 := by
    have h2 : x * 2 ^ d < 2 ^ u1.z * 2 ^ d := Nat.mul_lt_mul_of_pos_right hx (Nat.two_pow_pos _)
    rw [← Nat.pow_add] at h2
    exact Nat.lt_of_lt_of_le h2 (Nat.pow_le_pow_right (by decide) (by omega))
  have hxor := xor64 u1.b (x * 2 ^ d) (by omega) hxd
  have hshl : IntKind.u64.wrap ((x : Int) * 2 ^ d) = ((x * 2 ^ d : Nat) : Int) := by
    rw [IntKind.wrap_u64, show ((x : Int) * 2 ^ d) = ((x * 2 ^ d : Nat) : Int) by simp]; omega
  have hd64 : d ≤ 64 := by omega
  generalize x * 2 ^ d = X at *
  generalize u1.b ^^^ X = Y at *
  have HP1 := hide P1
  clear P1 hu1 hbn hx hd hxd hb5 haz
  go_wp2_with fail
  refine region_anyL (S := fun w' => w'.cell? ⟨ub, 5, none⟩ = some (.int .u64 (u1.b : Nat)) ∧ w'.cell? ⟨ub, 6, none⟩ = some (.int .i64 (u1.a : Nat)) ∧ w'.cell? ⟨ub, 7, none⟩ = some (.int .i64 (u1.z : Nat))) 26 (by kernel_rfl) ⟨c5, c6, c7⟩ (fun hS => ?_)
  refine anyL_take 0 (oi := ?zo28) (v := ?zv28) ?zhi28 (by kernel_rfl) (by kernel_rfl) (by kernel_rfl) (by kernel_rfl) (by kernel_rfl) (by kernel_rfl) ?zq28 (Or.inl ⟨?zwa28, ?zy28⟩) hS ?zrest28
  case zhi28 => simp only [List.getElem?_toArray, List.getElem?_cons_zero, List.getElem?_cons_succ]; rfl
  case zwa28 => rfl
  case zy28 => intro wz hz; obtain ⟨z1, z2, z3⟩ := hz; go_simp <;> rfl
  case zq28 => exact fun _ _ _ h => h
  simp only [Act.put, List.setIfInBounds_toArray, List.set_cons_zero, List.set_cons_succ]
  refine anyL_take 1 (oi := ?zo29) (v := ?zv29) ?zhi29 (by kernel_rfl) (by kernel_rfl) (by kernel_rfl) (by kernel_rfl) (by kernel_rfl) (by kernel_rfl) ?zq29 (Or.inl ⟨?zwa29, ?zy29⟩) hS ?zrest29
  case zhi29 => simp only [List.getElem?_toArray, List.getElem?_cons_zero, List.getElem?_cons_succ]; rfl
  case zwa29 => rfl
  case zy29 => intro wz hz; obtain ⟨z1, z2, z3⟩ := hz; go_simp <;> rfl
  case zq29 => exact fun _ _ _ h => h
  simp only [Act.put, List.setIfInBounds_toArray, List.set_cons_zero, List.set_cons_succ]
  refine anyL_take 2 (oi := ?zo30) (v := ?zv30) ?zhi30 (by kernel_rfl) (by kernel_rfl) (by kernel_rfl) (by kernel_rfl) (by kernel_rfl) (by kernel_rfl) ?zq30 (Or.inl ⟨?zwa30, ?zy30⟩) hS ?zrest30
  case zhi30 => simp only [List.getElem?_toArray, List.getElem?_cons_zero, List.getElem?_cons_succ]; rfl
  case zwa30 => rfl
  case zy30 => intro wz hz; obtain ⟨z1, z2, z3⟩ := hz; go_simp <;> rfl
  case zq30 => exact fun _ _ _ h => h
  simp only [Act.put, List.setIfInBounds_toArray, List.set_cons_zero, List.set_cons_succ]
  refine anyL_take 3 (oi := ?zo31) (v := ?zv31) ?zhi31 (by kernel_rfl) (by kernel_rfl) (by kernel_rfl) (by kernel_rfl) (by kernel_rfl) (by kernel_rfl) ?zq31 (Or.inl ⟨?zwa31, ?zy31⟩) hS ?zrest31
  case zhi31 => simp only [List.getElem?_toArray, List.getElem?_cons_zero, List.getElem?_cons_succ]; rfl
  case zwa31 => rfl
  case zy31 => intro wz hz; obtain ⟨z1, z2, z3⟩ := hz; go_simp <;> rfl
  case zq31 => exact fun _ _ _ h => h
  simp only [Act.put, List.setIfInBounds_toArray, List.set_cons_zero, List.set_cons_succ]
  refine anyL_take 4 (oi := ?zo32) (v := ?zv32) ?zhi32 (by kernel_rfl) (by kernel_rfl) (by kernel_rfl) (by kernel_rfl) (by kernel_rfl) (by kernel_rfl) ?zq32 (Or.inl ⟨?zwa32, ?zy32⟩) hS ?zrest32
  case zhi32 => simp only [List.getElem?_toArray, List.getElem?_cons_zero, List.getElem?_cons_succ]; rfl
  case zwa32 => rfl
  case zy32 => intro wz hz; obtain ⟨z1, z2, z3⟩ := hz; go_simp <;> rfl
  case zq32 => exact fun _ _ _ h => h
  simp only [Act.put, List.setIfInBounds_toArray, List.set_cons_zero, List.set_cons_succ]
  refine anyL_take 5 (oi := ?zo33) (v := ?zv33) ?zhi33 (by kernel_rfl) (by kernel_rfl) (by kernel_rfl) (by kernel_rfl) (by kernel_rfl) (by kernel_rfl) ?zq33 (Or.inl ⟨?zwa33, ?zy33⟩) hS ?zrest33
  case zhi33 => simp only [List.getElem?_toArray, List.getElem?_cons_zero, List.getElem?_cons_succ]; rfl
  case zwa33 => rfl
  case zy33 => intro wz hz; obtain ⟨z1, z2, z3⟩ := hz; go_simp <;> rfl
  case zq33 => exact fun _ _ _ h => h
  simp only [Act.put, List.setIfInBounds_toArray, List.set_cons_zero, List.set_cons_succ]
  refine anyL_take 6 (oi := ?zo34) (v := ?zv34) ?zhi34 (by kernel_rfl) (by kernel_rfl) (by kernel_rfl) (by kernel_rfl) (by kernel_rfl) (by kernel_rfl) ?zq34 (Or.inl ⟨?zwa34, ?zy34⟩) hS ?zrest34
  case zhi34 => simp only [List.getElem?_toArray, List.getElem?_cons_zero, List.getElem?_cons_succ]; rfl
  case zwa34 => rfl
  case zy34 => intro wz hz; obtain ⟨z1, z2, z3⟩ := hz; go_simp <;> rfl
  case zq34 => exact fun _ _ _ h => h
  simp only [Act.put, List.setIfInBounds_toArray, List.set_cons_zero, List.set_cons_succ]
  refine anyL_take 7 (oi := ?zo35) (v := ?zv35) ?zhi35 (by kernel_rfl) (by kernel_rfl) (by kernel_rfl) (by kernel_rfl) (by kernel_rfl) (by kernel_rfl) ?zq35 (Or.inl ⟨?zwa35, ?zy35⟩) hS ?zrest35
  case zhi35 => simp only [List.getElem?_toArray, List.getElem?_cons_zero, List.getElem?_cons_succ]; rfl
  case zwa35 => rfl
  case zy35 => intro wz hz; obtain ⟨z1, z2, z3⟩ := hz; go_simp <;> rfl
  case zq35 => exact fun _ _ _ h => h
  simp only [Act.put, List.setIfInBounds_toArray, List.set_cons_zero, List.set_cons_succ]
  refine anyL_take 8 (oi := ?zo36) (v := ?zv36) ?zhi36 (by kernel_rfl) (by kernel_rfl) (by kernel_rfl) (by kernel_rfl) (by kernel_rfl) (by kernel_rfl) ?zq36 (Or.inl ⟨?zwa36, ?zy36⟩) hS ?zrest36
  case zhi36 => simp only [List.getElem?_toArray, List.getElem?_cons_zero, List.getElem?_cons_succ]; rfl
  case zwa36 => rfl
  case zy36 => intro wz hz; obtain ⟨z1, z2, z3⟩ := hz; go_simp <;> rfl
  case zq36 => exact fun _ _ _ h => h
  simp only [Act.put, List.setIfInBounds_toArray, List.set_cons_zero, List.set_cons_succ]
  refine anyL_take 9 (oi := ?zo37) (v := ?zv37) ?zhi37 (by kernel_rfl) (by kernel_rfl) (by kernel_rfl) (by kernel_rfl) (by kernel_rfl) (by kernel_rfl) ?zq37 (Or.inl ⟨?zwa37, ?zy37⟩) hS ?zrest37
  case zhi37 => simp only [List.getElem?_toArray, List.getElem?_cons_zero, List.getElem?_cons_succ]; rfl
  case zwa37 => rfl
  case zy37 => intro wz hz; obtain ⟨z1, z2, z3⟩ := hz; go_simp <;> rfl
  case zq37 => exact fun _ _ _ h => h
  simp only [Act.put, List.setIfInBounds_toArray, List.set_cons_zero, List.set_cons_succ]
  refine anyL_take 10 (oi := ?zo38) (v := ?zv38) ?zhi38 (by kernel_rfl) (by kernel_rfl) (by kernel_rfl) (by kernel_rfl) (by kernel_rfl) (by kernel_rfl) ?zq38 (Or.inl ⟨?zwa38, ?zy38⟩) hS ?zrest38
  case zhi38 => simp only [List.getElem?_toArray, List.getElem?_cons_zero, List.getElem?_cons_succ]; rfl
  case zwa38 => rfl
  case zy38 => intro wz hz; obtain ⟨z1, z2, z3⟩ := hz; go_simp <;> rfl
  case zq38 => exact fun _ _ _ h => h
  simp only [Act.put, List.setIfInBounds_toArray, List.set_cons_zero, List.set_cons_succ]
  refine anyL_take 11 (oi := ?zo39) (v := ?zv39) ?zhi39 (by kernel_rfl) (by kernel_rfl) (by kernel_rfl) (by kernel_rfl) (by kernel_rfl) (by kernel_rfl) ?zq39 (Or.inl ⟨?zwa39, ?zy39⟩) hS ?zrest39
  case zhi39 => simp only [List.getElem?_toArray, List.getElem?_cons_zero, List.getElem?_cons_succ]; rfl
  case zwa39 => rfl
  case zy39 => intro wz hz; obtain ⟨z1, z2, z3⟩ := hz; go_simp <;> rfl
  case zq39 => exact fun _ _ _ h => h
  simp only [Act.put, List.setIfInBounds_toArray, List.set_cons_zero, List.set_cons_succ]
  refine anyL_take 12 (oi := ?zo40) (v := ?zv40) ?zhi40 (by kernel_rfl) (by kernel_rfl) (by kernel_rfl) (by kernel_rfl) (by kernel_rfl) (by kernel_rfl) ?zq40 (Or.inl ⟨?zwa40, ?zy40⟩) hS ?zrest40
  case zhi40 => simp only [List.getElem?_toArray, List.getElem?_cons_zero, List.getElem?_cons_succ]; rfl
  case zwa40 => rfl
  case zy40 => intro wz hz; obtain ⟨z1, z2, z3⟩ := hz; go_simp <;> rfl
  case zq40 => exact fun _ _ _ h => h
  simp only [Act.put, List.setIfInBounds_toArray, List.set_cons_zero, List.set_cons_succ]
  refine anyL_take 13 (oi := ?zo41) (v := ?zv41) ?zhi41 (by kernel_rfl) (by kernel_rfl) (by kernel_rfl) (by kernel_rfl) (by kernel_rfl) (by kernel_rfl) ?zq41 (Or.inl ⟨?zwa41, ?zy41⟩) hS ?zrest41
  case zhi41 => simp only [List.getElem?_toArray, List.getElem?_cons_zero, List.getElem?_cons_succ]; rfl
  case zwa41 => rfl
  case zy41 => intro wz hz; obtain ⟨z1, z2, z3⟩ := hz; go_simp <;> rfl
  case zq41 => exact fun _ _ _ h => h
  simp only [Act.put, List.setIfInBounds_toArray, List.set_cons_zero, List.set_cons_succ]
  refine anyL_take 15 (oi := ?zo42) (v := ?zv42) ?zhi42 (by kernel_rfl) (by kernel_rfl) (by kernel_rfl) (by kernel_rfl) (by kernel_rfl) (by kernel_rfl) ?zq42 (Or.inl ⟨?zwa42, ?zy42⟩) hS ?zrest42
  case zhi42 => simp only [List.getElem?_toArray, List.getElem?_cons_zero, List.getElem?_cons_succ]; rfl
  case zwa42 => rfl
  case zy42 => intro wz hz; obtain ⟨z1, z2, z3⟩ := hz; go_simp <;> rfl
  case zq42 => exact fun _ _ _ h => h
  simp only [Act.put, List.setIfInBounds_toArray, List.set_cons_zero, List.set_cons_succ]
  refine anyL_take 16 (oi := ?zo43) (v := ?zv43) ?zhi43 (by kernel_rfl) (by kernel_rfl) (by kernel_rfl) (by kernel_rfl) (by kernel_rfl) (by kernel_rfl) ?zq43 (Or.inl ⟨?zwa43, ?zy43⟩) hS ?zrest43
  case zhi43 => simp only [List.getElem?_toArray, List.getElem?_cons_zero, List.getElem?_cons_succ]; rfl
  case zwa43 => rfl
  case zy43 => intro wz hz; obtain ⟨z1, z2, z3⟩ := hz; go_simp <;> rfl
  case zq43 => exact fun _ _ _ h => h
  simp only [Act.put, List.setIfInBounds_toArray, List.set_cons_zero, List.set_cons_succ]
  refine anyL_take 17 (oi := ?zo44) (v := ?zv44) ?zhi44 (by kernel_rfl) (by kernel_rfl) (by kernel_rfl) (by kernel_rfl) (by kernel_rfl) (by kernel_rfl) ?zq44 (Or.inl ⟨?zwa44, ?zy44⟩) hS ?zrest44
  case zhi44 => simp only [List.getElem?_toArray, List.getElem?_cons_zero, List.getElem?_cons_succ]; rfl
  case zwa44 => rfl
  case zy44 => intro wz hz; obtain ⟨z1, z2, z3⟩ := hz; go_simp <;> rfl
  case zq44 => exact fun _ _ _ h => h
  simp only [Act.put, List.setIfInBounds_toArray, List.set_cons_zero, List.set_cons_succ]
  refine anyL_take 18 (oi := ?zo45) (v := ?zv45) ?zhi45 (by kernel_rfl) (by kernel_rfl) (by kernel_rfl) (by kernel_rfl) (by kernel_rfl) (by kernel_rfl) ?zq45 (Or.inl ⟨?zwa45, ?zy45⟩) hS ?zrest45
  case zhi45 => simp only [List.getElem?_toArray, List.getElem?_cons_zero, List.getElem?_cons_succ]; rfl
  case zwa45 => rfl
  case zy45 => intro wz hz; obtain ⟨z1, z2, z3⟩ := hz; go_simp <;> rfl
  case zq45 => exact fun _ _ _ h => h
  simp only [Act.put, List.setIfInBounds_toArray, List.set_cons_zero, List.set_cons_succ]
  refine anyL_take 19 (oi := ?zo46) (v := ?zv46) ?zhi46 (by kernel_rfl) (by kernel_rfl) (by kernel_rfl) (by kernel_rfl) (by kernel_rfl) (by kernel_rfl) ?zq46 (Or.inl ⟨?zwa46, ?zy46⟩) hS ?zrest46
  case zhi46 => simp only [List.getElem?_toArray, List.getElem?_cons_zero, List.getElem?_cons_succ]; rfl
  case zwa46 => rfl
  case zy46 => intro wz hz; obtain ⟨z1, z2, z3⟩ := hz; go_simp <;> rfl
  case zq46 => exact fun _ _ _ h => h
  simp only [Act.put, List.setIfInBounds_toArray, List.set_cons_zero, List.set_cons_succ]
  refine anyL_one 14 (o := ?zo47) (by kernel_rfl) ?zhi47 (by kernel_rfl) ?zst47
  case zhi47 => simp only [List.getElem?_toArray, List.getElem?_cons_zero, List.getElem?_cons_succ]; rfl
  intro K hK
  go_simp
  refine C2.out.mono ?_
  rintro r w2 ⟨rfl, hB2, hR2⟩
  have P2 := HP1.out.drew.read hB2 hR2
  have HR2 := hide (HR1.out.trans ((Rd.of_read ((Read.refl w1 ub 0).drewN 1)).trans (Rd.of_read hR2)))
  have HP2 := hide P2
  refine hK.out _ _ ⟨P2.c5, P2.c6, P2.c7⟩ (fun hS2 => ?_)
  clear hK K hS P2 hB2 hR2 HP1 HR1 C2 c5 c6 c7
  refine anyL_one 20 (o := ?zo48) (by kernel_rfl) ?zhi48 (by kernel_rfl) ?zst48
  case zhi48 => simp only [List.getElem?_toArray, List.getElem?_cons_zero, List.getElem?_cons_succ]; rfl
  intro K hK
  go_simp
  refine (C3.out _).mono ?_
  rintro r w3 ⟨rfl, hw3⟩
  have P3 : UP w3 ub s { u1 with pos := p2, st := q2 } := by rw [hw3]; exact HP2.out.alloc _
  have HR3 : Hid (Rd w w3 ub 0) := by rw [hw3]; exact HR2.out.alloc _
  have e5 := P3.c5
  have f5 := P3.fr 5
  have HP3 := hide P3
  refine hK.out _ _ ⟨P3.c5, P3.c6, P3.c7⟩ (fun hS3 => ?_)
  clear hK K hS2 P3 HP2 HR2 C3 hw3
  refine anyL_take 21 (oi := ?zo49) (v := ?zv49) ?zhi49 (by kernel_rfl) (by kernel_rfl) (by kernel_rfl) (by kernel_rfl) (by kernel_rfl) (by kernel_rfl) ?zq49 (Or.inl ⟨?zwa49, ?zy49⟩) hS3 ?zrest49
  case zhi49 => simp only [List.getElem?_toArray, List.getElem?_cons_zero, List.getElem?_cons_succ]; rfl
  case zwa49 => rfl
  case zy49 => intro wz hz; obtain ⟨z1, z2, z3⟩ := hz; go_simp <;> rfl
  case zq49 => exact fun _ _ _ h => h
  simp only [Act.put, List.setIfInBounds_toArray, List.set_cons_zero, List.set_cons_succ]
  refine anyL_take 22 (oi := ?zo50) (v := ?zv50) ?zhi50 (by kernel_rfl) (by kernel_rfl) (by kernel_rfl) (by kernel_rfl) (by kernel_rfl) (by kernel_rfl) ?zq50 (Or.inl ⟨?zwa50, ?zy50⟩) hS3 ?zrest50
  case zhi50 => simp only [List.getElem?_toArray, List.getElem?_cons_zero, List.getElem?_cons_succ]; rfl
  case zwa50 => rfl
  case zy50 => intro wz hz; obtain ⟨z1, z2, z3⟩ := hz; go_simp <;> rfl
  case zq50 => exact fun _ _ _ h => h
  simp only [Act.put, List.setIfInBounds_toArray, List.set_cons_zero, List.set_cons_succ]
  refine anyL_take 23 (oi := ?zo51) (v := ?zv51) ?zhi51 (by kernel_rfl) (by kernel_rfl) (by kernel_rfl) (by kernel_rfl) (by kernel_rfl) (by kernel_rfl) ?zq51 (Or.inl ⟨?zwa51, ?zy51⟩) hS3 ?zrest51
  case zhi51 => simp only [List.getElem?_toArray, List.getElem?_cons_zero, List.getElem?_cons_succ]; rfl
  case zwa51 => rfl
  case zy51 => intro wz hz; obtain ⟨z1, z2, z3⟩ := hz; go_simp <;> rfl
  case zq51 => exact fun _ _ _ h => h
  simp only [Act.put, List.setIfInBounds_toArray, List.set_cons_zero, List.set_cons_succ]
  refine anyL_take 24 (oi := ?zo52) (v := ?zv52) ?zhi52 (by kernel_rfl) (by kernel_rfl) (by kernel_rfl) (by kernel_rfl) (by kernel_rfl) (by kernel_rfl) ?zq52 (Or.inl ⟨?zwa52, ?zy52⟩) hS3 ?zrest52
  case zhi52 => simp only [List.getElem?_toArray, List.getElem?_cons_zero, List.getElem?_cons_succ]; rfl
  case zwa52 => rfl
  case zy52 => intro wz hz; obtain ⟨z1, z2, z3⟩ := hz; go_simp <;> rfl
  case zq52 => exact fun _ _ _ h => h
  simp only [Act.put, List.setIfInBounds_toArray, List.set_cons_zero, List.set_cons_succ]
  refine anyL_take 25 (oi := ?zo53) (v := ?zv53) ?zhi53 (by kernel_rfl) (by kernel_rfl) (by kernel_rfl) (by kernel_rfl) (by kernel_rfl) (by kernel_rfl) ?zq53 (Or.inl ⟨?zwa53, ?zy53⟩) hS3 ?zrest53
  case zhi53 => simp only [List.getElem?_toArray, List.getElem?_cons_zero, List.getElem?_cons_succ]; rfl
  case zwa53 => rfl
  case zy53 => intro wz hz; obtain ⟨z1, z2, z3⟩ := hz; go_simp <;> rfl
  case zq53 => exact fun _ _ _ h => h
  simp only [Act.put, List.setIfInBounds_toArray, List.set_cons_zero, List.set_cons_succ]
  refine anyL_last 26 (o := ?zo1) (by kernel_rfl) ?zhi1 (by kernel_rfl) (by kernel_rfl) ?zst1
  case zhi1 => simp only [List.getElem?_toArray, List.getElem?_cons_zero, List.getElem?_cons_succ]; rfl
  intro K hK
  go_simp
  refine hK.out _ _ ?_
  clear hK K hS3
  have HP4 := hide (HP3.out.setB Y)
  have HR4 := hide (HR3.out.set_own (o := 5) (.int .u64 Y))
  clear HP3 HR3 hxor hshl
  go_wp2
  go_end0
  exact ⟨rfl, by rw [← HU.out, HE.out]; exact HP4.out, HR4.out⟩

set_option maxHeartbeats 400000 in
theorem takeBits_zero (ub : Nat) (s : ByteArray) (u : US) (w : World) (H : UP w ub s u) (hu : UOk s u) (hs : s.size ≤ 140737488355328) (h1 : (mk s 2 u.pos u.st).1 = 0) :
    Calls Tryz.prog 152 #[.pointer (some ⟨ub, 0, none⟩)] w fun e w' => e = .returned (.tuple #[]) ∧ UP w' ub s { u with pos := (mk s 2 u.pos u.st).2.1, st := (mk s 2 u.pos u.st).2.2 } ∧ Rd w w' ub 0 := by
  have C1 := hide (takeMark_any ub 0 u.pos u.st 2 s w H.br hs hu.hpos (by omega))
  generalize mk s 2 u.pos u.st = m at *
  obtain ⟨k, p1, q1⟩ := m
  simp only at C1 h1
  subst h1
  have HP := hide H
  clear H hu
  go_enter Tryz.func152, Tryz.ntmps152
  go_wp2_with fail
  refine C1.out.mono ?_
  rintro e w1 ⟨rfl, hB1, hR1⟩
  have HP1 := hide (HP.out.read hB1 hR1)
  have HR1 := hide (Rd.of_read hR1)
  clear HP C1 hB1 hR1
  go_wp2
  go_end0
  exact ⟨rfl, HP1.out, HR1.out⟩
theorem takeBits_any (ub : Nat) (s : ByteArray) (u : US) (w : World) (H : UP w ub s u) (hu : UOk s u) (hs : s.size ≤ 140737488355328) :
    Calls Tryz.prog 152 #[.pointer (some ⟨ub, 0, none⟩)] w fun e w' => e = .returned (.tuple #[]) ∧ UP w' ub s (bitU s u) ∧ Rd w w' ub 0 := by
  have hle := mk_le s 2 u.pos u.st
  by_cases h0 : (mk s 2 u.pos u.st).1 = 0
  · have e : bitU s u = { u with pos := (mk s 2 u.pos u.st).2.1, st := (mk s 2 u.pos u.st).2.2 } := if_pos h0
    rw [e]; exact takeBits_zero ub s u w H hu hs h0
  · by_cases h2 : (mk s 2 u.pos u.st).1 = 2
    · have e : bitU s u = inU s (winU s { u with pos := (mk s 2 u.pos u.st).2.1, st := (mk s 2 u.pos u.st).2.2 }) := (if_neg h0).trans (if_pos h2)
      rw [e]; exact takeBits_two ub s u w H hu hs h2
    · have e : bitU s u = inU s { u with pos := (mk s 2 u.pos u.st).2.1, st := (mk s 2 u.pos u.st).2.2 } := (if_neg h0).trans (if_neg h2)
      rw [e]; exact takeBits_one ub s u w H hu hs (by omega)
end Go.Proofs.YtamcclcbmenjdaaGreatDoor

/- unpackChunk. -/
namespace Go.Proofs.YtamcclcbmenjdaaGreatDoor
open Go.RowKit Go.Lib

def lenOf : Value → Nat
  | .slice _ n _ => n
  | _ => 0
theorem UOk.step {s : ByteArray} {u : US} (h : UOk s u) : UOk s (stepU s u) := h.time.bit
theorem UOk.seq {s : ByteArray} {u : US} (h : UOk s u) (n : Nat) : UOk s (seqU s u n).2 := by
  induction n with
  | zero => exact h
  | succ n ih => exact ih.step
theorem UP.init {w : World} {s : ByteArray} (hT : Tabs w) : UP (w.alloc (.cells #[.string s, .int .i64 0, .int .i64 0, .int .u64 0, .int .u64 0, .int .u64 0, .int .i64 0, .int .i64 0] 216)) w.heap.size s ⟨0, 0, 0, 0, 0, 0, 0⟩ := by
  have e : ∀ i, (w.alloc (.cells #[.string s, .int .i64 0, .int .i64 0, .int .u64 0, .int .u64 0, .int .u64 0, .int .i64 0, .int .i64 0] 216)).cell? ⟨w.heap.size, i, none⟩ = (#[Value.string s, .int .i64 0, .int .i64 0, .int .u64 0, .int .u64 0, .int .u64 0, .int .i64 0, .int .i64 0] : Array Value)[i]? := fun i => World.cell?_alloc_new _ _ _ i
  have f : ∀ i, (w.alloc (.cells #[.string s, .int .i64 0, .int .i64 0, .int .u64 0, .int .u64 0, .int .u64 0, .int .i64 0, .int .i64 0] 216)).frozen? ⟨w.heap.size, i, none⟩ = false := fun i => World.frozen?_alloc_new _ _ _ i
  exact ⟨⟨e 0, e 1, e 2, f 1, f 2⟩, e 3, e 4, e 5, e 6, e 7, f, hT.alloc _, hT.lt⟩
/-- What a call leaves that writes its own block ub alone, and makes new ones. -/
theorem below_rd {B ub yo : Nat} {w w1 w2 : World} (h : Below B w w1) (k : Rd w1 w2 ub yo) (hB : B ≤ w1.heap.size) (hu : B ≤ ub) : Below B w w2 :=
  h.trans ⟨k.os, k.tape, k.output, k.size, fun i hi => k.block i (by omega) (by omega)⟩
theorem UP.grown {w w' : World} {ub : Nat} {s : ByteArray} {u : US} {r : Option Nat} (h : UP w ub s u) (k : w.grownBy w' r) (hr : ∀ b, r = some b → ub < b) : UP w' ub s u := by
  have hp := h.hp
  have hl := h.lt
  have hb := k.block ub hl (fun e => by have := hr ub e.symm; omega)
  have e : ∀ o, w'.cell? ⟨ub, o, none⟩ = w.cell? ⟨ub, o, none⟩ := fun o => World.cell?_of_block (a := ⟨ub, o, none⟩) hb
  have f : ∀ o, w'.frozen? ⟨ub, o, none⟩ = w.frozen? ⟨ub, o, none⟩ := fun o => World.frozen?_of_block (a := ⟨ub, o, none⟩) hb
  exact ⟨⟨(e 0).trans h.br.c0, (e 1).trans h.br.c1, (e 2).trans h.br.c2, (f 1).trans h.br.f1, (f 2).trans h.br.f2⟩, (e 3).trans h.c3, (e 4).trans h.c4, (e 5).trans h.c5, (e 6).trans h.c6, (e 7).trans h.c7,
    fun o => (f o).trans (h.fr o), h.tabs.kept (k.block _ (by omega) (fun e => by have := hr _ e.symm; omega)) (k.block _ (by omega) (fun e => by have := hr _ e.symm; omega)), hp⟩
set_option maxRecDepth 100000 in
set_option maxHeartbeats 400000 in
theorem unpackChunk_any (s : ByteArray) (n : Nat) (w : World) (hn1 : 1 ≤ n) (hn : n ≤ 40) (hs : s.size ≤ 140737488355328) (hT : Tabs w) :
    Calls Tryz.prog 134 #[.string s, .int .i64 n] w fun e w' => ∃ v, e = .returned (.tuple #[v, .int .i64 (chunkR s n).2.st]) ∧ w'.ownsRow w.heap.size 34 2 v n (samCells (chunkR s n).1) ∧ Below w.heap.size w w' := by
  obtain ⟨i0, hi, hz0, hz1, hz2⟩ := info_parts Tryz.infoSam
  have h3 := hT.lt
  have P0 := UP.init (s := s) hT
  have C1 := hide (take_any w.heap.size 0 0 0 64 s _ P0.br hs (by omega) (by omega))
  have hx := tk_lt s 0 0 64
  have hp1 := tk_pos s 0 0 64 (by omega)
  have HF : Hid (firstU s = ⟨(tk s (tk s 0 0 64).2.1 (tk s 0 0 64).2.2 64).2.1, (tk s (tk s 0 0 64).2.1 (tk s 0 0 64).2.2 64).2.2, (tk s 0 0 64).1, 0, (tk s (tk s 0 0 64).2.1 (tk s 0 0 64).2.2 64).1, 0, 0⟩) := rfl
  generalize tk s 0 0 64 = t1 at *
  obtain ⟨x, p1, q1⟩ := t1
  simp only at C1 hx hp1 HF
  have hy := tk_lt s p1 q1 64
  have hp2 := tk_pos s p1 q1 64 hp1
  have HT2 := hide (fun (w1 : World) (hB : BR w1 w.heap.size 0 s p1 q1) => take_any w.heap.size 0 p1 q1 64 s w1 hB hs hp1 (by omega))
  generalize tk s p1 q1 64 = t2 at *
  obtain ⟨y, p2, q2⟩ := t2
  simp only at hy hp2 HF HT2
  have HX := hide hx
  have HY := hide hy
  have HP2 := hide hp2
  have HP0 := hide P0
  have HB0 : Hid (Below w.heap.size w (w.alloc (.cells #[.string s, .int .i64 0, .int .i64 0, .int .u64 0, .int .u64 0, .int .u64 0, .int .i64 0, .int .i64 0] 216))) := (Below.refl _ _).alloc (Nat.le_refl _) _
  clear P0 hx hy hp1 hp2 hT
  go_enter Tryz.func134, Tryz.ntmps134
  go_wp2_with fail
  refine C1.out.mono ?_
  rintro e w1 ⟨rfl, hB1, hR1⟩
  have P1 := HP0.out.read hB1 hR1
  have c3 := P1.c3
  have fr := P1.fr
  have HP1 := hide (P1.setT x)
  have HB1 := hide ((below_rd HB0.out (Rd.of_read hR1) (by simp) (Nat.le_refl _)).setCell (p := ⟨w.heap.size, 3, none⟩) (Nat.le_refl _) (.int .u64 x))
  have hs1 : w.heap.size < w1.heap.size := P1.lt
  clear P1 hB1 hR1 HP0 HB0 C1
  go_wp2_with fail
  refine (HT2.out _ HP1.out.br).mono ?_
  rintro e w2 ⟨rfl, hB2, hR2⟩
  have P2 := HP1.out.read hB2 hR2
  have c5 := P2.c5
  have fr2 := P2.fr
  have P2' : UP (w2.setCell ⟨w.heap.size, 5, none⟩ (.int .u64 y)) w.heap.size s (firstU s) := by rw [HF.out]; exact P2.setB y
  have HP2b := hide P2'
  have HB2 := hide ((below_rd HB1.out (Rd.of_read hR2) (by simp; omega) (Nat.le_refl _)).setCell (p := ⟨w.heap.size, 5, none⟩) (Nat.le_refl _) (.int .u64 y))
  have hs2 : w.heap.size < w2.heap.size := P2.lt
  have HU : Hid (UOk s (firstU s)) := by
    show UOk s (firstU s)
    rw [HF.out]
    exact ⟨by have := HX.out; show x ≤ _; omega, Nat.zero_le _, by have := HY.out; show y ≤ _; omega, by show 0 + 0 ≤ 64; omega, HP2.out⟩
  clear P2 P2' hB2 hR2 HP1 HB1 HT2 c3 fr
  go_wp2_with (first | (at_make; refine wpList_make_own _ rfl _ _ 35 rfl (w.heap.size + 1) 34 i0 _ 2 Tryz.underlying35 hi hz0 hz1 .i64 .i64 _ n rfl rfl rfl (by rw [hz2]; omega) (by unfold maxLen; omega) (by simp; omega) ?_; intro w3 hown3 hgrow3))
  have esz : (w2.setCell ⟨w.heap.size, 5, none⟩ (.int .u64 y)).heap.size = w2.heap.size := by simp
  rw [esz] at hown3
  have HP3 := hide (HP2b.out.grown hgrow3 (by simp))
  have HB3 := hide (below_grownAt HB2.out hgrow3 (by simp; omega) (by simp))
  have HO3 := hide hown3
  have hs3 : w2.heap.size ≤ w3.heap.size := by have := hgrow3.size; simpa using this
  clear hown3 hgrow3 HP2b HB2 c5 fr2
  have C4 := hide (sample_any w.heap.size s (firstU s) w3 HP3.out HU.out.ht)
  go_wp2_with fail
  refine C4.out.mono ?_
  rintro e w4 ⟨rfl, hb4⟩
  have HP4 := hide (HP3.out.kept fun k hk => hb4.block k hk)
  have HO4 := hide (own_kept HO3.out fun k hk => hb4.block k (World.ownsRow.lt HO3.out k hk).2)
  have HB4 := hide (HB3.out.trans (hb4.mono HB3.out.size))
  have hs4 := hb4.size
  clear hb4 HP3 HO3 HB3 C4
  clear esz
  generalize w2.heap.size = g at *
  go_wp2_with (first | (at_builtin; refine wpList_append_own_spare _ rfl (.tmp 21) (.tmp 23) 35 rfl (w.heap.size + 1) 34 i0 2 Tryz.underlying35 hi hz1 g 0 n _ rfl (own_alloc HO4.out _) ⟨w4.heap.size, 0, none⟩ 1 1 [.int .i64 (toI (firstU s).t), .int .u64 (firstU s).b] rfl rfl (cells_new _ _ _) (one_two rfl rfl) (by omega) ?_))
  intro w5 hown5 hgrow5
  have HO5 : Hid (w5.ownsRow (w.heap.size + 1) 34 2 (.slice (some ⟨g, 0, none⟩) (0 + 1) n) (0 + 1) (samCells (seqU s (firstU s) 0).1)) := hown5
  have HP5 := hide ((HP4.out.alloc (.cells #[.int .i64 (toI (firstU s).t), .int .u64 (firstU s).b] 34)).grown hgrow5 (fun b e => by have := Option.some.inj e; omega))
  have HB5 := hide (below_grownAt (HB4.out.alloc HB4.out.size (.cells #[.int .i64 (toI (firstU s).t), .int .u64 (firstU s).b] 34)) hgrow5 (by have := HB4.out.size; simp; omega) (fun b e => by have := Option.some.inj e; omega))
  clear hown5 hgrow5 HO4 HP4 HB4
  go_wp2
  go_loopw [7] (fun o wr => ∃ k : Nat, k + 1 ≤ n ∧ o = .slice (some ⟨g, 0, none⟩) (k + 1) n ∧ wr.ownsRow (w.heap.size + 1) 34 2 (.slice (some ⟨g, 0, none⟩) (k + 1) n) (k + 1) (samCells (seqU s (firstU s) k).1) ∧ UP wr w.heap.size s (seqU s (firstU s) k).2 ∧ Below w.heap.size w wr) (fun o _ => n - lenOf o)
  case atStart => exact ⟨0, hn1, rfl, HO5.out, HP5.out, HB5.out⟩
  case round =>
    obtain ⟨k, hk, rfl, hO, hP, hB⟩ := hrel
    have HO := hide hO
    have HB := hide hB
    have HU1 := hide (HU.out.seq k)
    have hsr := hP.lt
    clear HO5 HP5 HB5
    by_cases hlt : k + 1 < n
    · have C5 := hide (takeTime_any w.heap.size s _ wr hP HU1.out hs)
      have HU2 := hide HU1.out.time
      have HU3 := hide HU1.out.step
      have HX1 : Hid ((seqU s (firstU s) (k + 1)).1 = (seqU s (firstU s) k).1 ++ [(toI (bitU s (timeU s (seqU s (firstU s) k).2)).t, (bitU s (timeU s (seqU s (firstU s) k).2)).b)]) := rfl
      have HX2 : Hid ((seqU s (firstU s) (k + 1)).2 = bitU s (timeU s (seqU s (firstU s) k).2)) := rfl
      have HU4 : Hid ((bitU s (timeU s (seqU s (firstU s) k).2)).t ≤ 18446744073709551615) := HU3.out.ht
      generalize (seqU s (firstU s) k).2 = u at *
      generalize (seqU s (firstU s) k).1 = done at *
      clear hO hP hB HU3
      go_wp2_with fail
      refine C5.out.mono ?_
      rintro e w6 ⟨rfl, hP6, hR6⟩
      have C6 := hide (takeBits_any w.heap.size s _ w6 hP6 HU2.out hs)
      have HO6 := hide (own_rd HO.out hR6 (by omega))
      have HB6 := hide (below_rd HB.out hR6 HB.out.size (Nat.le_refl _))
      clear hP6 hR6 C5 HO HB HU1
      generalize bitU s (timeU s u) = u' at *
      go_wp2_with fail
      refine C6.out.mono ?_
      rintro e w7 ⟨rfl, hP7, hR7⟩
      have C7 := hide (sample_any w.heap.size s u' w7 hP7 HU4.out)
      have HO7 := hide (own_rd HO6.out hR7 (by omega))
      have HB7 := hide (below_rd HB6.out hR7 HB6.out.size (Nat.le_refl _))
      have HP7 := hide hP7
      clear hP7 hR7 C6 HO6 HB6 HU2
      go_wp2_with fail
      refine C7.out.mono ?_
      rintro e w8 ⟨rfl, hb8⟩
      have HP8 := hide (HP7.out.kept fun k hk => hb8.block k hk)
      have HO8 := hide (own_kept HO7.out fun k hk => hb8.block k (World.ownsRow.lt HO7.out k hk).2)
      have HB8 := hide (HB7.out.trans (hb8.mono HB7.out.size))
      have hs8 := HB8.out.size
      have hg8 : w.heap.size + 1 ≤ g ∧ g < w8.heap.size := World.ownsRow.lt HO8.out g rfl
      clear hb8 HP7 HO7 HB7 C7
      go_wp2_with (first | (at_builtin; refine wpList_append_own_spare _ rfl (.tmp 31) (.tmp 33) 35 rfl (w.heap.size + 1) 34 i0 2 Tryz.underlying35 hi hz1 g (k + 1) n _ rfl (own_alloc HO8.out _) ⟨w8.heap.size, 0, none⟩ 1 1 [.int .i64 (toI u'.t), .int .u64 u'.b] rfl rfl (cells_new _ _ _) (one_two rfl rfl) (by omega) ?_))
      intro w9 hown9 hgrow9
      have HO9 : Hid (w9.ownsRow (w.heap.size + 1) 34 2 (.slice (some ⟨g, 0, none⟩) (k + 1 + 1) n) (k + 1 + 1) (samCells (seqU s (firstU s) (k + 1)).1)) := by
        rw [HX1.out, samCells_snoc]; exact hown9
      have HP9 : Hid (UP w9 w.heap.size s (seqU s (firstU s) (k + 1)).2) := by
        rw [HX2.out]; exact (HP8.out.alloc _).grown hgrow9 (fun b e => by have := Option.some.inj e; omega)
      have HB9 := hide (below_grownAt (HB8.out.alloc HB8.out.size (.cells #[.int .i64 (toI u'.t), .int .u64 u'.b] 34)) hgrow9 (by simp; omega) (fun b e => by have := Option.some.inj e; omega))
      clear hown9 hgrow9 HO8 HP8 HB8 HX1 HX2
      go_wp2
      go_roundw
      case rel => exact ⟨k + 1, by omega, rfl, HO9.out, HP9.out, HB9.out⟩
      case measure => simp [lenOf]; omega
    · have hke : k + 1 = n := by omega
      have c2 := hP.br.c2
      have HC : Hid (chunkR s n = seqU s (firstU s) k) := by show _ = _; unfold chunkR; rw [show n - 1 = k by omega]
      clear hO hB hP
      go_wp2
      go_quiet (fail)
      go_wp2
      go_ret2
      rw [HC.out]
      refine ⟨.slice (some ⟨g, 0, none⟩) (k + 1) n, rfl, ?_, below_drewN HB.out _⟩
      have h := own_mono HO.out (Nat.le_succ _)
      rw [hke] at h ⊢
      exact h
end Go.Proofs.YtamcclcbmenjdaaGreatDoor

/- The byte reader: samples. -/
namespace Go.Proofs.YtamcclcbmenjdaaGreatDoor
open Go.RowKit Go.Lib

theorem Tabs.rd {w w' : World} {yb yo : Nat} (h : Tabs w) (hr : Rd w w' yb yo) (hy : 3 ≤ yb) : Tabs w' := by
  have h3 := h.lt
  exact h.kept (hr.block _ (by omega) (by omega)) (hr.block _ (by omega) (by omega))
theorem chunkR_length (s : ByteArray) (n : Nat) (h : 1 ≤ n) : (chunkR s n).1.length = n := by
  unfold chunkR; rw [seqU_length]; omega

set_option maxRecDepth 100000 in
set_option maxHeartbeats 400000 in
theorem samples_any (yb yo : Nat) (p : Rest) (w : World) (H : YR w yb yo p.1 p.2) (hs : Short 140737488355328 p) (hT : Tabs w) (hy3 : 3 ≤ yb) :
    Calls Tryz.prog 109 #[.pointer (some ⟨yb, yo, none⟩)] w fun e w' => ∃ v, e = .returned v ∧ w'.ownsRow w.heap.size 34 2 v (samplesR p).1.length (samCells (samplesR p).1) ∧
      YR w' yb yo (samplesR p).2.1 (samplesR p).2.2 ∧ Rd w w' yb yo := by
  have hyw := H.lt
  have C1 := hide (number_is yb yo p.2 p.1 40 w H hs.1)
  have hn : (numR p.1 40 p.2).1 ≤ 40 := num_nat p 40
  have hs1 := short_num hs 40
  have HE : Hid (samplesR p = if (numR p.1 40 p.2).1 = 0 then ([], gone) else if (chunkR (textR (numR p.1 40 p.2).2.1 (numR p.1 40 p.2).2.1.size (numR p.1 40 p.2).2.2).1 (numR p.1 40 p.2).1).2.st = 1 then ((chunkR (textR (numR p.1 40 p.2).2.1 (numR p.1 40 p.2).2.1.size (numR p.1 40 p.2).2.2).1 (numR p.1 40 p.2).1).1, gone) else ((chunkR (textR (numR p.1 40 p.2).2.1 (numR p.1 40 p.2).2.1.size (numR p.1 40 p.2).2.2).1 (numR p.1 40 p.2).1).1, (textR (numR p.1 40 p.2).2.1 (numR p.1 40 p.2).2.1.size (numR p.1 40 p.2).2.2).2)) := rfl
  generalize numR p.1 40 p.2 = r at *
  obtain ⟨n, s1, q1⟩ := r
  simp only at C1 hn hs1 HE
  have hx := Nat.le_trans (textR_len s1 s1.size q1) hs1.1
  have HT := hide hT
  clear H hs hT
  go_enter Tryz.func109, Tryz.ntmps109
  go_wp2_with fail
  refine C1.out.mono ?_
  rintro e w1 ⟨rfl, hY1, hR1⟩
  have c0 := hY1.c0
  have C2 := hide (text_is yb yo q1 s1 s1.size w1 hY1 hs1.1)
  have HR1 := hide hR1
  generalize textR s1 s1.size q1 = t at *
  obtain ⟨x, p2⟩ := t
  simp only at C2 hx HE
  clear hY1 hR1 C1 hs1
  go_wp2_with fail
  refine C2.out.mono ?_
  rintro e w2 ⟨rfl, hY2, hR2⟩
  have HR2 := hide (HR1.out.trans hR2)
  have HY2 := hide hY2
  clear hR2 C2 HR1 c0
  by_cases h0 : n = 0
  · have CF := hide (fail_any yb yo p2.2 p2.1 w2 hY2)
    have HE2 := hide (HE.out.trans (if_pos h0))
    subst h0
    clear hY2 HE HY2
    go_wp2_with fail
    refine CF.out.mono ?_
    rintro e w3 ⟨rfl, hY3, hR3⟩
    have HY3 := hide hY3
    have HR3 := hide (HR2.out.trans hR3)
    clear hY3 hR3 CF HR2
    go_wp2
    go_ret
    rw [HE2.out]
    exact ⟨_, rfl, World.ownsRow_nil _ _ _ _, HY3.out, HR3.out⟩
  · have hn1 : 1 ≤ n := by omega
    have hT2 := HT.out.rd HR2.out hy3
    have C3 := hide (unpackChunk_any x n w2 hn1 hn hx hT2)
    have HE2 := hide (HE.out.trans (if_neg h0))
    have HL := hide (chunkR_length x n hn1)
    have h0b : ((n : Int) == 0) = false := by simp; omega
    have hsz := HR2.out.size
    generalize chunkR x n = q at *
    obtain ⟨l, u⟩ := q
    simp only at C3 HE2 HL
    clear hY2 hT2 HE
    go_wp2_with fail
    refine C3.out.mono ?_
    rintro e w3 ⟨v, rfl, hO3, hb3⟩
    have HO3 := hide (own_mono hO3 hsz)
    have HY3 := hide (HY2.out.kept (hb3.block yb HY2.out.lt))
    have HR3 := hide (HR2.out.below hb3)
    clear hO3 hb3 C3 HR2 HY2
    by_cases h1 : u.st = 1
    · have CF := hide (fail_any yb yo p2.2 p2.1 w3 HY3.out)
      have HE3 := hide (HE2.out.trans (if_pos h1))
      have h1b : ((u.st : Int) == 1) = true := by simp; omega
      clear HE2
      go_wp2_with fail
      refine CF.out.mono ?_
      rintro e w4 ⟨rfl, hY4, hR4⟩
      have HO4 := hide (own_rd HO3.out hR4 hyw)
      have HY4 := hide hY4
      have HR4 := hide (HR3.out.trans hR4)
      clear hY4 hR4 CF HO3 HY3 HR3
      go_wp2
      go_ret
      rw [HE3.out]
      exact ⟨_, rfl, by rw [HL.out]; exact HO4.out, HY4.out, HR4.out⟩
    · have HE3 := hide (HE2.out.trans (if_neg h1))
      have h1b : ((u.st : Int) == 1) = false := by simp; omega
      clear HE2
      go_wp2
      go_ret
      rw [HE3.out]
      exact ⟨_, rfl, by rw [HL.out]; exact HO3.out, HY3.out, HR3.out⟩
end Go.Proofs.YtamcclcbmenjdaaGreatDoor

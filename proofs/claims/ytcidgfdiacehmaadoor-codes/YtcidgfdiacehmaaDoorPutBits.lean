/- putBits. -/
import Derived.Test.YtcidgfdiacehmaaDoorNewWin
namespace Go.Proofs.YtcidgfdiacehmaaDoor
open Go.RowKit

/-- How x is told, the window being the z bits behind a; and the window from then on. -/
def bitBits (a z x : Nat) : List Bool :=
  if wayOf a z x = 0 then markOf 0 2 else if wayOf a z x = 1 then markOf 1 2 ++ Pl.bitsOf (x / 2 ^ (64 - a - z)) z
  else markOf 2 2 ++ winBits (newAhead x) (newSize x) ++ Pl.bitsOf (x / 2 ^ (64 - newAhead x - newSize x)) (newSize x)
def nextA (a z x : Nat) : Nat := if wayOf a z x = 2 then newAhead x else a
def nextZ (a z x : Nat) : Nat := if wayOf a z x = 2 then newSize x else z

theorem winBits_app (l : List Bool) (a z : Nat) : (l ++ winBits a z).length = l.length + 11 := by simp [winBits, Pl.bitsOf_length]
theorem wayOf_le (a z x : Nat) : wayOf a z x ≤ 2 := by unfold wayOf; split; omega; split <;> omega

theorem behind_nat (a z d : Nat) (w : World) (haz : a + z ≤ 64) (hd : d = 64 - a - z) :
    Calls Tryd.prog 105 #[.agg #[.int .i64 a, .int .i64 z]] w fun e w' => e = .returned (.int .i64 d) ∧ w' = w.alloc (.cells #[.int .i64 a, .int .i64 z] 120) := by
  refine (behind_any a z w (by omega) (by omega)).mono ?_
  rintro e w' ⟨rfl, rfl⟩
  exact ⟨ret_int (by omega), rfl⟩
/-- The last step of putBits where bits of x are told: in the window that stands in the packer. -/
theorem tail_facts {W : World} {pb t s b a z x d : Nat} {v : Value} {bits : List Bool} (H : PK W pb v bits t s b a z) (haz : a + z ≤ 64) (hx : x ≤ 18446744073709551615) (hnb : bits.length ≤ 60000) (hd : d = 64 - a - z) (o : Obj) :
    Calls Tryd.prog 78 #[.pointer (some ⟨pb, 0, none⟩), .int .u64 ((x : Int) / 2 ^ d), .int .i64 z] (W.alloc o).drew fun r w' => r = .returned (.tuple #[]) ∧
      ∃ v', PK w' pb v' (bits ++ Pl.bitsOf (x / 2 ^ (64 - a - z)) z) t s b a z ∧ Moved pb W v w' v' := by
  subst hd
  have H1 := (H.kept (w' := W.alloc o) fun k hk => heap_alloc_old W _ hk).drew
  have hlt : x / 2 ^ (64 - a - z) < 18446744073709551616 := Nat.lt_of_le_of_lt (Nat.div_le_self _ _) (by omega)
  refine (put_int pb 0 ((x : Int) / 2 ^ (64 - a - z)) z (x / 2 ^ (64 - a - z)) z v _ bits (by simp) rfl hlt (by omega) (by omega) H1.bw).mono ?_
  rintro e w' ⟨rfl, v', hb, hw, hh⟩
  obtain ⟨P, B⟩ := H1.wrote hb hw hh
  exact ⟨rfl, v', P, ((Moved.of_below v ((Below.refl W.heap.size W).alloc (Nat.le_refl _) o)).drew).trans B⟩

set_option maxRecDepth 100000 in
set_option maxHeartbeats 400000 in
theorem putBits_win (pb t s b a z all x : Nat) (v : Value) (w : World) (bits : List Bool) (haz : a + z ≤ 64) (hx : x ≤ 18446744073709551615)
    (hX : Go.bits .xor .u64 (all : Int) (b : Int) = (x : Int)) (hway : wayOf a z x = 1) (hnb : bits.length ≤ 50000) (H : PK w pb v bits t s b a z) :
    Calls Tryd.prog 80 #[.pointer (some ⟨pb, 0, none⟩), .int .u64 all] w fun e w' => e = .returned (.tuple #[]) ∧
      ∃ v', PK w' pb v' (bits ++ (markOf 1 2 ++ Pl.bitsOf (x / 2 ^ (64 - a - z)) z)) t s all a z ∧ Moved pb w v w' v' := by
  have c4 := H.c4
  have c5 := H.c5
  have c6 := H.c6
  have HP := hide H
  have HW := hide hway
  have HZ := hide haz
  clear H hway haz
  go_enter Tryd.func80, Tryd.ntmps80
  go_wp2_with fail
  refine (wayOf_any a z x _ (by have := HZ.out; omega) (by have := HZ.out; omega) hx HP.out.tabs).mono ?_
  rintro e w1 ⟨rfl, hb1⟩
  rw [HW.out]
  have P1 := HP.out.below hb1
  have HB1 := hide (Moved.of_below (pb := pb) v hb1)
  clear hb1 HP c4 c5 c6
  have HP1 := hide P1
  clear P1
  go_wp2_with fail
  refine (putMark_any pb 0 1 2 v _ bits (by omega) (by omega) (by omega) HP1.out.bw).mono ?_
  rintro e w2 ⟨rfl, v2, hb2, hw2, hh2⟩
  obtain ⟨P2, B2⟩ := HP1.out.wrote hb2 hw2 hh2
  have hlen : (bits ++ markOf 1 2).length ≤ 60000 := Nat.le_trans (markOf_app bits 1 2) (by omega)
  obtain ⟨d, hd⟩ : ∃ d, d = 64 - a - z := ⟨_, rfl⟩
  have C := hide (tail_facts (x := x) P2 HZ.out hx hlen hd)
  have CB := hide (fun W => behind_nat a z d W HZ.out hd)
  have hd64 : d ≤ 64 := by omega
  have HB2 := hide (HB1.out.trans B2)
  have c5 := P2.c5
  have c6 := P2.c6
  have hpb := P2.bw.lt
  clear hb2 hw2 hh2 B2 HB1 HP1 hlen hX hd
  go_wp2
  as_aux_lemma =>
    go_region_held3 (fun w' => w'.cell? ⟨pb, 5, none⟩ = some (.int .i64 a) ∧ w'.cell? ⟨pb, 6, none⟩ = some (.int .i64 z)) (go_keep) (first | (go_at_call 105; refine (CB.out _).mono ?_; rintro e w' ⟨rfl, rfl⟩) | (go_at_call 78; refine (C.out _).mono ?_; rintro e w' ⟨rfl, v3, P3, B3⟩; have q5 := P3.c5; have q6 := P3.c6))
    all_goals
      have HF := hide (P3.setBits all)
      have HB3 := hide (HB2.out.trans B3)
      have c4 := P3.c4
      have fr := P3.fr
      clear P3 B3 P2
      go_wp2
      go_end0
      exact ⟨rfl, v3, by rw [← List.append_assoc]; exact HF.out.1, HB3.out.trans HF.out.2⟩

set_option maxRecDepth 100000 in
set_option maxHeartbeats 400000 in
theorem putBits_same (pb t s b a z all x : Nat) (v : Value) (w : World) (bits : List Bool) (haz : a + z ≤ 64) (hx : x ≤ 18446744073709551615)
    (hX : Go.bits .xor .u64 (all : Int) (b : Int) = (x : Int)) (hway : wayOf a z x = 0) (hnb : bits.length ≤ 50000) (H : PK w pb v bits t s b a z) :
    Calls Tryd.prog 80 #[.pointer (some ⟨pb, 0, none⟩), .int .u64 all] w fun e w' => e = .returned (.tuple #[]) ∧
      ∃ v', PK w' pb v' (bits ++ markOf 0 2) t s all a z ∧ Moved pb w v w' v' := by
  have c4 := H.c4
  have c5 := H.c5
  have c6 := H.c6
  have HP := hide H
  have HW := hide hway
  have HZ := hide haz
  clear H hway haz
  go_enter Tryd.func80, Tryd.ntmps80
  go_wp2_with fail
  refine (wayOf_any a z x _ (by have := HZ.out; omega) (by have := HZ.out; omega) hx HP.out.tabs).mono ?_
  rintro e w1 ⟨rfl, hb1⟩
  rw [HW.out]
  have P1 := HP.out.below hb1
  have HB1 := hide (Moved.of_below (pb := pb) v hb1)
  clear hb1 HP c4 c5 c6
  have HP1 := hide P1
  clear P1
  go_wp2_with fail
  refine (putMark_any pb 0 0 2 v _ bits (by omega) (by omega) (by omega) HP1.out.bw).mono ?_
  rintro e w2 ⟨rfl, v2, hb2, hw2, hh2⟩
  obtain ⟨P2, B2⟩ := HP1.out.wrote hb2 hw2 hh2
  have HF := hide (P2.setBits all)
  have HB2 := hide (HB1.out.trans B2)
  have c4 := P2.c4
  have fr := P2.fr
  clear hb2 hw2 hh2 B2 HB1 HP1 hX P2
  go_wp2
  go_end0
  exact ⟨rfl, v2, HF.out.1, HB2.out.trans HF.out.2⟩

set_option maxRecDepth 100000 in
set_option maxHeartbeats 400000 in
theorem putBits_new (pb t s b a z all x : Nat) (v : Value) (w : World) (bits : List Bool) (haz : a + z ≤ 64) (hx : x ≤ 18446744073709551615) (h0 : x ≠ 0)
    (hX : Go.bits .xor .u64 (all : Int) (b : Int) = (x : Int)) (hway : wayOf a z x = 2) (hnb : bits.length ≤ 50000) (H : PK w pb v bits t s b a z) :
    Calls Tryd.prog 80 #[.pointer (some ⟨pb, 0, none⟩), .int .u64 all] w fun e w' => e = .returned (.tuple #[]) ∧
      ∃ v', PK w' pb v' (bits ++ (markOf 2 2 ++ winBits (newAhead x) (newSize x) ++ Pl.bitsOf (x / 2 ^ (64 - newAhead x - newSize x)) (newSize x))) t s all (newAhead x) (newSize x) ∧ Moved pb w v w' v' := by
  have nb := new_bounds x h0 (by omega)
  have c4 := H.c4
  have c5 := H.c5
  have c6 := H.c6
  have HP := hide H
  have HW := hide hway
  have HZ := hide haz
  have HN := hide nb
  have H0 := hide h0
  clear H hway haz nb h0
  go_enter Tryd.func80, Tryd.ntmps80
  go_wp2_with fail
  refine (wayOf_any a z x _ (by have := HZ.out; omega) (by have := HZ.out; omega) hx HP.out.tabs).mono ?_
  rintro e w1 ⟨rfl, hb1⟩
  rw [HW.out]
  have P1 := HP.out.below hb1
  have HB1 := hide (Moved.of_below (pb := pb) v hb1)
  clear hb1 HP c4 c5 c6
  have HP1 := hide P1
  clear P1
  go_wp2_with fail
  refine (putMark_any pb 0 2 2 v _ bits (by omega) (by omega) (by omega) HP1.out.bw).mono ?_
  rintro e w2 ⟨rfl, v2, hb2, hw2, hh2⟩
  obtain ⟨P2, B2⟩ := HP1.out.wrote hb2 hw2 hh2
  have hlen : (bits ++ markOf 2 2).length ≤ 50003 := Nat.le_trans (markOf_app bits 2 2) (by omega)
  have HL := hide hlen
  have HB2 := hide (HB1.out.trans B2)
  have HP2 := hide P2
  clear hb2 hw2 hh2 B2 HB1 HP1 hlen hX P2
  go_wp2_with fail
  refine (newWindow_any x _ hx H0.out HP2.out.tabs).mono ?_
  rintro e w3 ⟨rfl, hb3⟩
  have HB3 := hide (HB2.out.trans (Moved.of_below (pb := pb) v2 hb3))
  have HP3 := hide (HP2.out.below hb3)
  clear hb3 HP2 HB2
  obtain ⟨na, hna⟩ : ∃ na, na = newAhead x := ⟨_, rfl⟩
  obtain ⟨nz, hnz⟩ : ∃ nz, nz = newSize x := ⟨_, rfl⟩
  rw [← hna, ← hnz] at HN ⊢
  have EA := hide hna
  have EZ := hide hnz
  clear hna hnz
  go_wp2_with fail
  refine (putWindow_any pb t s b a z na nz v2 _ (bits ++ markOf 2 2) (by have := HN.out; omega) (by have := HN.out; omega) (by have := HN.out; omega) (by have := HL.out; omega) HP3.out).mono ?_
  rintro e w4 ⟨rfl, v4, P4, B4⟩
  have hlen : ((bits ++ markOf 2 2) ++ winBits na nz).length ≤ 60000 := Nat.le_trans (Nat.le_of_eq (winBits_app (bits ++ markOf 2 2) na nz)) (by have := HL.out; omega)
  obtain ⟨d, hd⟩ : ∃ d, d = 64 - na - nz := ⟨_, rfl⟩
  have C := hide (tail_facts (x := x) P4 (by have := HN.out; omega) hx hlen hd)
  have CB := hide (fun W => behind_nat na nz d W (by have := HN.out; omega) hd)
  have hd64 : d ≤ 64 := by omega
  have HB4 := hide (HB3.out.trans B4)
  have c5 := P4.c5
  have c6 := P4.c6
  have hpb := P4.bw.lt
  clear B4 HB3 HP3 hlen hd HL
  go_wp2
  as_aux_lemma =>
    go_region_held3 (fun w' => w'.cell? ⟨pb, 5, none⟩ = some (.int .i64 na) ∧ w'.cell? ⟨pb, 6, none⟩ = some (.int .i64 nz)) (go_keep) (first | (go_at_call 105; refine (CB.out _).mono ?_; rintro e w' ⟨rfl, rfl⟩) | (go_at_call 78; refine (C.out _).mono ?_; rintro e w' ⟨rfl, v5, P5, B5⟩; have q5 := P5.c5; have q6 := P5.c6))
    all_goals
      have HF := hide (P5.setBits all)
      have HB5 := hide (HB4.out.trans B5)
      have c4 := P5.c4
      have fr := P5.fr
      clear P5 B5 P4
      go_wp2
      go_end0
      exact ⟨rfl, v5, by rw [← EA.out, ← EZ.out, ← List.append_assoc, ← List.append_assoc]; exact HF.out.1, HB5.out.trans HF.out.2⟩

/-- (*packer).putBits. -/
theorem putBits_any (pb t s b a z all : Nat) (v : Value) (w : World) (bits : List Bool) (haz : a + z ≤ 64) (hb : b ≤ 18446744073709551615) (hall : all ≤ 18446744073709551615)
    (hnb : bits.length ≤ 50000) (H : PK w pb v bits t s b a z) :
    Calls Tryd.prog 80 #[.pointer (some ⟨pb, 0, none⟩), .int .u64 all] w fun e w' => e = .returned (.tuple #[]) ∧
      ∃ v', PK w' pb v' (bits ++ bitBits a z (all ^^^ b)) t s all (nextA a z (all ^^^ b)) (nextZ a z (all ^^^ b)) ∧ Moved pb w v w' v' := by
  have hX := bits_xor_u64_nat all b (by omega) (by omega)
  have hx : all ^^^ b < 2 ^ 64 := Nat.xor_lt_two_pow (by omega) (by omega)
  generalize all ^^^ b = x at *
  have hl := wayOf_le a z x
  have h3 : wayOf a z x = 0 ∨ wayOf a z x = 1 ∨ wayOf a z x = 2 := by omega
  rcases h3 with h | h | h
  · refine (putBits_same pb t s b a z all x v w bits haz (by omega) hX h hnb H).mono ?_
    rintro e w' ⟨rfl, v', hP, hB⟩
    exact ⟨rfl, v', by simpa [bitBits, nextA, nextZ, h] using hP, hB⟩
  · refine (putBits_win pb t s b a z all x v w bits haz (by omega) hX h hnb H).mono ?_
    rintro e w' ⟨rfl, v', hP, hB⟩
    exact ⟨rfl, v', by simpa [bitBits, nextA, nextZ, h] using hP, hB⟩
  · have h0 : x ≠ 0 := by rintro rfl; simp [wayOf] at h
    refine (putBits_new pb t s b a z all x v w bits haz (by omega) h0 hX h hnb H).mono ?_
    rintro e w' ⟨rfl, v', hP, hB⟩
    exact ⟨rfl, v', by simpa [bitBits, nextA, nextZ, h] using hP, hB⟩
end Go.Proofs.YtcidgfdiacehmaaDoor

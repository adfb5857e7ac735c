/- 'choirkeep.Level', for any list of steps (100 of them are done): when all are up, nothing is under way, and each has told each other one, all have the same, and compacted logs are the same bytes. The first form's statement and its card: no condition beside the row's own. -/
import Derived.Test.YtamcclcbmenjdaaGreatDoorLevelG9
import Derived.Lib.AppendStr
/- putBits. -/
namespace Go.Proofs.YtamcclcbmenjdaaGreatDoor
open Go.RowKit

/-- How x is told, the window being the z bits behind a; and the window from then on. -/
def bitBits (a z x : Nat) : List Bool :=
  if wayOf a z x = 0 then markOf 0 2 else if wayOf a z x = 1 then markOf 1 2 ++ Pl.bitsOf (x / 2 ^ (64 - a - z)) z
  else markOf 2 2 ++ winBits (newAhead x) (newSize x) ++ Pl.bitsOf (x / 2 ^ (64 - newAhead x - newSize x)) (newSize x)
def nextA (a z x : Nat) : Nat := if wayOf a z x = 2 then newAhead x else a
def nextZ (a z x : Nat) : Nat := if wayOf a z x = 2 then newSize x else z

theorem winBits_app (l : List Bool) (a z : Nat) : (l ++ winBits a z).length = l.length + 11 := by simp [winBits, Pl.bitsOf_length]
theorem wayOf_le (a z x : Nat) : wayOf a z x ≤ 2 := by unfold wayOf; split; omega; split <;> omega

theorem behind_nat (a z d : Nat) (w : World) (haz : a + z ≤ 64) (hd : d = 64 - a - z) :
    Calls Tryz.prog 173 #[.agg #[.int .i64 a, .int .i64 z]] w fun e w' => e = .returned (.int .i64 d) ∧ w' = w.alloc (.cells #[.int .i64 a, .int .i64 z] 212) := by
  refine (behind_any a z w (by omega) (by omega)).mono ?_
  rintro e w' ⟨rfl, rfl⟩
  exact ⟨ret_int (by omega), rfl⟩
/-- The last step of putBits where bits of x are told: in the window that stands in the packer. -/
theorem tail_facts {W : World} {pb t s b a z x d : Nat} {v : Value} {bits : List Bool} (H : PK W pb v bits t s b a z) (haz : a + z ≤ 64) (hx : x ≤ 18446744073709551615) (hnb : bits.length ≤ 60000) (hd : d = 64 - a - z) (o : Obj) :
    Calls Tryz.prog 156 #[.pointer (some ⟨pb, 0, none⟩), .int .u64 ((x : Int) / 2 ^ d), .int .i64 z] (W.alloc o).drew fun r w' => r = .returned (.tuple #[]) ∧
      ∃ v', PK w' pb v' (bits ++ Pl.bitsOf (x / 2 ^ (64 - a - z)) z) t s b a z ∧ Moved pb W v w' v' := by
  subst hd
  have H1 := (H.kept (w' := W.alloc o) fun k hk => heap_alloc_old W _ hk).drew
  have hlt : x / 2 ^ (64 - a - z) < 18446744073709551616 := Nat.lt_of_le_of_lt (Nat.div_le_self _ _) (by omega)
  refine (put_int pb 0 ((x : Int) / 2 ^ (64 - a - z)) z (x / 2 ^ (64 - a - z)) z v _ bits (by simp) rfl hlt (by omega) (by omega) H1.bw).mono ?_
  rintro e w' ⟨rfl, v', hb, hw, hh⟩
  obtain ⟨P, B⟩ := H1.wrote hb hw hh
  exact ⟨rfl, v', P, ((Moved.of_below v ((Below.refl W.heap.size W).alloc (Nat.le_refl _) o)).drew).trans B⟩

set_option maxRecDepth 100000 in
set_option maxHeartbeats 400000 in
theorem putBits_win (pb t s b a z all x : Nat) (v : Value) (w : World) (bits : List Bool) (haz : a + z ≤ 64) (hx : x ≤ 18446744073709551615)
    (hX : Go.bits .xor .u64 (all : Int) (b : Int) = (x : Int)) (hway : wayOf a z x = 1) (hnb : bits.length ≤ 50000) (H : PK w pb v bits t s b a z) :
    Calls Tryz.prog 158 #[.pointer (some ⟨pb, 0, none⟩), .int .u64 all] w fun e w' => e = .returned (.tuple #[]) ∧
      ∃ v', PK w' pb v' (bits ++ (markOf 1 2 ++ Pl.bitsOf (x / 2 ^ (64 - a - z)) z)) t s all a z ∧ Moved pb w v w' v' := by
  have c4 := H.c4
  have c5 := H.c5
  have c6 := H.c6
  have HP := hide H
  have HW := hide hway
  have HZ := hide haz
  clear H hway haz
  go_enter Tryz.func158, Tryz.ntmps158
  go_wp2_with fail
  refine (wayOf_any a z x _ (by have := HZ.out; omega) (by have := HZ.out; omega) hx HP.out.tabs).mono ?_
  rintro e w1 ⟨rfl, hb1⟩
  rw [HW.out]
  have P1 := HP.out.below hb1
  have HB1 := hide (Moved.of_below (pb := pb) v hb1)
  clear hb1 HP c4 c5 c6
  have HP1 := hide P1
  clear P1
  go_wp2_with fail
  refine (putMark_any pb 0 1 2 v _ bits (by omega) (by omega) (by omega) HP1.out.bw).mono ?_
  rintro e w2 ⟨rfl, v2, hb2, hw2, hh2⟩
  obtain ⟨P2, B2⟩ := HP1.out.wrote hb2 hw2 hh2
  have hlen : (bits ++ markOf 1 2).length ≤ 60000 := Nat.le_trans (markOf_app bits 1 2) (by omega)
  obtain ⟨d, hd⟩ : ∃ d, d = 64 - a - z := ⟨_, rfl⟩
  have C := hide (tail_facts (x := x) P2 HZ.out hx hlen hd)
  have CB := hide (fun W => behind_nat a z d W HZ.out hd)
  have hd64 : d ≤ 64 := by omega
  have HB2 := hide (HB1.out.trans B2)
  have c5 := P2.c5
  have c6 := P2.c6
  have hpb := P2.bw.lt
  clear hb2 hw2 hh2 B2 HB1 HP1 hlen hX hd
  go_wp2
  as_aux_lemma =>
    go_region_held3 (fun w' => w'.cell? ⟨pb, 5, none⟩ = some (.int .i64 a) ∧ w'.cell? ⟨pb, 6, none⟩ = some (.int .i64 z)) (go_keep) (first | (go_at_call 173; refine (CB.out _).mono ?_; rintro e w' ⟨rfl, rfl⟩) | (go_at_call 156; refine (C.out _).mono ?_; rintro e w' ⟨rfl, v3, P3, B3⟩; have q5 := P3.c5; have q6 := P3.c6))
    all_goals
      have HF := hide (P3.setBits all)
      have HB3 := hide (HB2.out.trans B3)
      have c4 := P3.c4
      have fr := P3.fr
      clear P3 B3 P2
      go_wp2
      go_end0
      exact ⟨rfl, v3, by rw [← List.append_assoc]; exact HF.out.1, HB3.out.trans HF.out.2⟩

set_option maxRecDepth 100000 in
set_option maxHeartbeats 400000 in
theorem putBits_same (pb t s b a z all x : Nat) (v : Value) (w : World) (bits : List Bool) (haz : a + z ≤ 64) (hx : x ≤ 18446744073709551615)
    (hX : Go.bits .xor .u64 (all : Int) (b : Int) = (x : Int)) (hway : wayOf a z x = 0) (hnb : bits.length ≤ 50000) (H : PK w pb v bits t s b a z) :
    Calls Tryz.prog 158 #[.pointer (some ⟨pb, 0, none⟩), .int .u64 all] w fun e w' => e = .returned (.tuple #[]) ∧
      ∃ v', PK w' pb v' (bits ++ markOf 0 2) t s all a z ∧ Moved pb w v w' v' := by
  have c4 := H.c4
  have c5 := H.c5
  have c6 := H.c6
  have HP := hide H
  have HW := hide hway
  have HZ := hide haz
  clear H hway haz
  go_enter Tryz.func158, Tryz.ntmps158
  go_wp2_with fail
  refine (wayOf_any a z x _ (by have := HZ.out; omega) (by have := HZ.out; omega) hx HP.out.tabs).mono ?_
  rintro e w1 ⟨rfl, hb1⟩
  rw [HW.out]
  have P1 := HP.out.below hb1
  have HB1 := hide (Moved.of_below (pb := pb) v hb1)
  clear hb1 HP c4 c5 c6
  have HP1 := hide P1
  clear P1
  go_wp2_with fail
  refine (putMark_any pb 0 0 2 v _ bits (by omega) (by omega) (by omega) HP1.out.bw).mono ?_
  rintro e w2 ⟨rfl, v2, hb2, hw2, hh2⟩
  obtain ⟨P2, B2⟩ := HP1.out.wrote hb2 hw2 hh2
  have HF := hide (P2.setBits all)
  have HB2 := hide (HB1.out.trans B2)
  have c4 := P2.c4
  have fr := P2.fr
  clear hb2 hw2 hh2 B2 HB1 HP1 hX P2
  go_wp2
  go_end0
  exact ⟨rfl, v2, HF.out.1, HB2.out.trans HF.out.2⟩

set_option maxRecDepth 100000 in
set_option maxHeartbeats 400000 in
theorem putBits_new (pb t s b a z all x : Nat) (v : Value) (w : World) (bits : List Bool) (haz : a + z ≤ 64) (hx : x ≤ 18446744073709551615) (h0 : x ≠ 0)
    (hX : Go.bits .xor .u64 (all : Int) (b : Int) = (x : Int)) (hway : wayOf a z x = 2) (hnb : bits.length ≤ 50000) (H : PK w pb v bits t s b a z) :
    Calls Tryz.prog 158 #[.pointer (some ⟨pb, 0, none⟩), .int .u64 all] w fun e w' => e = .returned (.tuple #[]) ∧
      ∃ v', PK w' pb v' (bits ++ (markOf 2 2 ++ winBits (newAhead x) (newSize x) ++ Pl.bitsOf (x / 2 ^ (64 - newAhead x - newSize x)) (newSize x))) t s all (newAhead x) (newSize x) ∧ Moved pb w v w' v' := by
  have nb := new_bounds x h0 (by omega)
  have c4 := H.c4
  have c5 := H.c5
  have c6 := H.c6
  have HP := hide H
  have HW := hide hway
  have HZ := hide haz
  have HN := hide nb
  have H0 := hide h0
  clear H hway haz nb h0
  go_enter Tryz.func158, Tryz.ntmps158
  go_wp2_with fail
  refine (wayOf_any a z x _ (by have := HZ.out; omega) (by have := HZ.out; omega) hx HP.out.tabs).mono ?_
  rintro e w1 ⟨rfl, hb1⟩
  rw [HW.out]
  have P1 := HP.out.below hb1
  have HB1 := hide (Moved.of_below (pb := pb) v hb1)
  clear hb1 HP c4 c5 c6
  have HP1 := hide P1
  clear P1
  go_wp2_with fail
  refine (putMark_any pb 0 2 2 v _ bits (by omega) (by omega) (by omega) HP1.out.bw).mono ?_
  rintro e w2 ⟨rfl, v2, hb2, hw2, hh2⟩
  obtain ⟨P2, B2⟩ := HP1.out.wrote hb2 hw2 hh2
  have hlen : (bits ++ markOf 2 2).length ≤ 50003 := Nat.le_trans (markOf_app bits 2 2) (by omega)
  have HL := hide hlen
  have HB2 := hide (HB1.out.trans B2)
  have HP2 := hide P2
  clear hb2 hw2 hh2 B2 HB1 HP1 hlen hX P2
  go_wp2_with fail
  refine (newWindow_any x _ hx H0.out HP2.out.tabs).mono ?_
  rintro e w3 ⟨rfl, hb3⟩
  have HB3 := hide (HB2.out.trans (Moved.of_below (pb := pb) v2 hb3))
  have HP3 := hide (HP2.out.below hb3)
  clear hb3 HP2 HB2
  obtain ⟨na, hna⟩ : ∃ na, na = newAhead x := ⟨_, rfl⟩
  obtain ⟨nz, hnz⟩ : ∃ nz, nz = newSize x := ⟨_, rfl⟩
  rw [← hna, ← hnz] at HN ⊢
  have EA := hide hna
  have EZ := hide hnz
  clear hna hnz
  go_wp2_with fail
  refine (putWindow_any pb t s b a z na nz v2 _ (bits ++ markOf 2 2) (by have := HN.out; omega) (by have := HN.out; omega) (by have := HN.out; omega) (by have := HL.out; omega) HP3.out).mono ?_
  rintro e w4 ⟨rfl, v4, P4, B4⟩
  have hlen : ((bits ++ markOf 2 2) ++ winBits na nz).length ≤ 60000 := Nat.le_trans (Nat.le_of_eq (winBits_app (bits ++ markOf 2 2) na nz)) (by have := HL.out; omega)
  obtain ⟨d, hd⟩ : ∃ d, d = 64 - na - nz := ⟨_, rfl⟩
  have C := hide (tail_facts (x := x) P4 (by have := HN.out; omega) hx hlen hd)
  have CB := hide (fun W => behind_nat na nz d W (by have := HN.out; omega) hd)
  have hd64 : d ≤ 64 := by omega
  have HB4 := hide (HB3.out.trans B4)
  have c5 := P4.c5
  have c6 := P4.c6
  have hpb := P4.bw.lt
  clear B4 HB3 HP3 hlen hd HL
  go_wp2
  as_aux_lemma =>
    go_region_held3 (fun w' => w'.cell? ⟨pb, 5, none⟩ = some (.int .i64 na) ∧ w'.cell? ⟨pb, 6, none⟩ = some (.int .i64 nz)) (go_keep) (first | (go_at_call 173; refine (CB.out _).mono ?_; rintro e w' ⟨rfl, rfl⟩) | (go_at_call 156; refine (C.out _).mono ?_; rintro e w' ⟨rfl, v5, P5, B5⟩; have q5 := P5.c5; have q6 := P5.c6))
    all_goals
      have HF := hide (P5.setBits all)
      have HB5 := hide (HB4.out.trans B5)
      have c4 := P5.c4
      have fr := P5.fr
      clear P5 B5 P4
      go_wp2
      go_end0
      exact ⟨rfl, v5, by rw [← EA.out, ← EZ.out, ← List.append_assoc, ← List.append_assoc]; exact HF.out.1, HB5.out.trans HF.out.2⟩

/-- (*packer).putBits. -/
theorem putBits_any (pb t s b a z all : Nat) (v : Value) (w : World) (bits : List Bool) (haz : a + z ≤ 64) (hb : b ≤ 18446744073709551615) (hall : all ≤ 18446744073709551615)
    (hnb : bits.length ≤ 50000) (H : PK w pb v bits t s b a z) :
    Calls Tryz.prog 158 #[.pointer (some ⟨pb, 0, none⟩), .int .u64 all] w fun e w' => e = .returned (.tuple #[]) ∧
      ∃ v', PK w' pb v' (bits ++ bitBits a z (all ^^^ b)) t s all (nextA a z (all ^^^ b)) (nextZ a z (all ^^^ b)) ∧ Moved pb w v w' v' := by
  have hX := bits_xor_u64_nat all b (by omega) (by omega)
  have hx : all ^^^ b < 2 ^ 64 := Nat.xor_lt_two_pow (by omega) (by omega)
  generalize all ^^^ b = x at *
  have hl := wayOf_le a z x
  have h3 : wayOf a z x = 0 ∨ wayOf a z x = 1 ∨ wayOf a z x = 2 := by omega
  rcases h3 with h | h | h
  · refine (putBits_same pb t s b a z all x v w bits haz (by omega) hX h hnb H).mono ?_
    rintro e w' ⟨rfl, v', hP, hB⟩
    exact ⟨rfl, v', by simpa [bitBits, nextA, nextZ, h] using hP, hB⟩
  · refine (putBits_win pb t s b a z all x v w bits haz (by omega) hX h hnb H).mono ?_
    rintro e w' ⟨rfl, v', hP, hB⟩
    exact ⟨rfl, v', by simpa [bitBits, nextA, nextZ, h] using hP, hB⟩
  · have h0 : x ≠ 0 := by rintro rfl; simp [wayOf] at h
    refine (putBits_new pb t s b a z all x v w bits haz (by omega) h0 hX h hnb H).mono ?_
    rintro e w' ⟨rfl, v', hP, hB⟩
    exact ⟨rfl, v', by simpa [bitBits, nextA, nextZ, h] using hP, hB⟩
end Go.Proofs.YtamcclcbmenjdaaGreatDoor

/- packChunk. -/
namespace Go.Proofs.YtamcclcbmenjdaaGreatDoor
open Go.RowKit

/-- A time as 64 bits. -/
def u64 (t : Int) : Nat := (t % 18446744073709551616).toNat
theorem u64_le (t : Int) : u64 t ≤ 18446744073709551615 := by unfold u64; omega
theorem wrap_u64_int (t : Int) : IntKind.u64.wrap t = (u64 t : Int) := by rw [IntKind.wrap_u64, u64]; omega

/-- The bits of the samples behind the first. -/
def goBits : Nat → Nat → Nat → Nat → Nat → List (Int × Nat) → List Bool
  | _, _, _, _, _, [] => []
  | t, s, b, a, z, x :: r => (timeBits t s (u64 x.1) ++ bitBits a z (x.2 ^^^ b)) ++ goBits (u64 x.1) (sub64 (u64 x.1) t) x.2 (nextA a z (x.2 ^^^ b)) (nextZ a z (x.2 ^^^ b)) r
def chunkBits : List (Int × Nat) → List Bool
  | [] => []
  | x :: r => (Pl.bitsOf (u64 x.1) 64 ++ Pl.bitsOf x.2 64) ++ goBits (u64 x.1) 0 x.2 0 0 r

theorem timeBits_app (l : List Bool) (t s x : Nat) : (l ++ timeBits t s x).length ≤ l.length + 69 := by
  rw [timeBits, ← List.append_assoc, List.length_append, Pl.bitsOf_length]
  have h1 := markOf_app l (stepWay (sub64 (sub64 x t) s)) 4
  have h2 := stepWay_le (sub64 (sub64 x t) s)
  have h3 := stepWidth_le (stepWay (sub64 (sub64 x t) s))
  omega
theorem bitBits_app (l : List Bool) (a z x : Nat) (hz : z ≤ 64) : (l ++ bitBits a z x).length ≤ l.length + 78 := by
  unfold bitBits
  split
  · have := markOf_app l 0 2; omega
  · split
    · rw [← List.append_assoc, List.length_append, Pl.bitsOf_length]; have := markOf_app l 1 2; omega
    · rw [← List.append_assoc, ← List.append_assoc, List.length_append, Pl.bitsOf_length, winBits_app]; have := markOf_app l 2 2
      have : newSize x ≤ 64 := by unfold newSize; omega
      omega
theorem next_bounds (a z x : Nat) (haz : a + z ≤ 64) (hx : x < 2 ^ 64) : nextA a z x + nextZ a z x ≤ 64 := by
  unfold nextA nextZ
  split
  · rename_i h
    have h0 : x ≠ 0 := by rintro rfl; simp [wayOf] at h
    have := new_bounds x h0 hx
    omega
  · exact haz

theorem Bytes.mono {base base' : Nat} {w : World} {v : Value} {xs : List UInt8} (h : Bytes base w v xs) (hb : base' ≤ base) : Bytes base' w v xs := by
  refine ⟨h.1, ?_⟩
  rcases h.2 with h2 | ⟨g, cap, cur, hv, hg, r⟩
  · exact .inl h2
  · exact .inr ⟨g, cap, cur, hv, Nat.le_trans hb hg, r⟩
theorem PK.bytes_ge {w : World} {pb : Nat} {v : Value} {bits : List Bool} {t s b a z : Nat} (h : PK w pb v bits t s b a z) : Bytes pb w v (Pl.pack bits) := h.bw.bytes.mono (Nat.le_succ pb)
theorem step_eq {r : List (Int × Nat)} {k : Nat} {y : Int × Nat} {t s b a z : Nat} {done all : List Bool} (hr : r[k]? = some y) (h : done ++ goBits t s b a z (r.drop k) = all) :
    done ++ (timeBits t s (u64 y.1) ++ bitBits a z (y.2 ^^^ b)) ++ goBits (u64 y.1) (sub64 (u64 y.1) t) y.2 (nextA a z (y.2 ^^^ b)) (nextZ a z (y.2 ^^^ b)) (r.drop (k + 1)) = all := by
  obtain ⟨hk, hy⟩ := List.getElem?_eq_some_iff.1 hr
  rw [List.drop_eq_getElem_cons hk, hy, goBits, ← List.append_assoc] at h
  exact h
theorem step_len {done : List Bool} {k t s b a z : Nat} {y : Int × Nat} (h : done.length ≤ 150 * k) (hz : z ≤ 64) : (done ++ (timeBits t s (u64 y.1) ++ bitBits a z (y.2 ^^^ b))).length ≤ 150 * (k + 1) := by
  rw [← List.append_assoc]
  have h1 := bitBits_app (done ++ timeBits t s (u64 y.1)) a z (y.2 ^^^ b) hz
  have h2 := timeBits_app done t s (u64 y.1)
  omega
theorem PK.init {w : World} {ti bi : Nat} (hT : Tabs w) : PK (w.alloc (.cells #[.slice none 0 0, .int .i64 0, .int .u64 ti, .int .u64 0, .int .u64 bi, .int .i64 0, .int .i64 0] 225)).drew w.heap.size (.slice none 0 0) [] ti 0 bi 0 0 := by
  have e : ∀ i, ((w.alloc (.cells #[.slice none 0 0, .int .i64 0, .int .u64 ti, .int .u64 0, .int .u64 bi, .int .i64 0, .int .i64 0] 225)).drew).cell? ⟨w.heap.size, i, none⟩ = (#[Value.slice none 0 0, .int .i64 0, .int .u64 ti, .int .u64 0, .int .u64 bi, .int .i64 0, .int .i64 0] : Array Value)[i]? := fun i => World.cell?_alloc_new _ _ _ i
  have f : ∀ i, ((w.alloc (.cells #[.slice none 0 0, .int .i64 0, .int .u64 ti, .int .u64 0, .int .u64 bi, .int .i64 0, .int .i64 0] 225)).drew).frozen? ⟨w.heap.size, i, none⟩ = false := fun i => World.frozen?_alloc_new _ _ _ i
  exact ⟨⟨e 0, e 1, f 0, f 1, World.ownsRow_nil _ _ _ _⟩, e 2, e 3, e 4, e 5, e 6, f, (hT.alloc _).drew, hT.lt⟩

set_option maxRecDepth 100000 in
set_option maxHeartbeats 400000 in
theorem packChunk_any (B : Nat) (v : Value) (x : Int × Nat) (r : List (Int × Nat)) (w : World) (hS : SamplesAt w B v (x :: r)) (hB : B ≤ w.heap.size) (hT : Tabs w) (hlen : r.length ≤ 300) :
    Calls Tryz.prog 138 #[v] w fun e w' => ∃ v', e = .returned v' ∧ Bytes w.heap.size w' v' (Pl.pack (chunkBits (x :: r))) ∧ Below w.heap.size w w' := by
  obtain ⟨a, cap, rfl, hcap, hwf, h2⟩ := hS
  rcases h2 with h2 | ⟨b, o, rfl, hb, hcell⟩
  · cases h2
  obtain ⟨ti, bi⟩ := x
  have hx := hwf (ti, bi) (by simp)
  have k0 := (hcell 0 (ti, bi) rfl).1
  have k1 := (hcell 0 (ti, bi) rfl).2
  simp only [Nat.zero_mul, Nat.add_zero] at k0 k1
  have hw0 := wrap_u64_int ti
  have hbw : b < w.heap.size := by omega
  have HC := hide hcell
  have HW := hide hwf
  have HT := hide hT
  simp only [List.length_cons] at hcap ⊢
  clear hcell hwf hT
  go_enter Tryz.func138, Tryz.ntmps138
  go_wp2
  go_region_held3 (fun w' => w'.cell? ⟨b, o, none⟩ = some (.int .i64 ti) ∧ w'.cell? ⟨b, o + 1, none⟩ = some (.int .u64 bi)) (go_keep) (fail)
  as_aux_lemma =>
    have P0 := PK.init (ti := u64 ti) (bi := bi) HT.out
    have HB0 : Hid (Below w.heap.size w (w.alloc (.cells #[.slice none 0 0, .int .i64 0, .int .u64 (u64 ti), .int .u64 0, .int .u64 bi, .int .i64 0, .int .i64 0] 225)).drew) := ((Below.refl _ _).alloc (Nat.le_refl _) _).drew
    have HP0 := hide P0
    have hbi : bi < 18446744073709551616 := by omega
    have hti : u64 ti < 18446744073709551616 := by have := u64_le ti; omega
    clear P0 k0 k1
    go_wp2_with fail
    refine (put_any w.heap.size 0 (u64 ti) 64 _ _ [] hti (by omega) (by simp) HP0.out.bw).mono ?_
    rintro e w1 ⟨rfl, v1, hb1, hw1, hh1⟩
    obtain ⟨P1, B1⟩ := HP0.out.wrote hb1 hw1 hh1
    have HB1 := hide (HB0.out.trans (B1.below HP0.out.bw.bytes HP0.out.bw.lt))
    have c4 := P1.c4
    have HP1 := hide P1
    clear P1 B1 hb1 hw1 hh1 HP0 HB0
    go_wp2_with fail
    refine (put_any w.heap.size 0 bi 64 v1 _ ([] ++ Pl.bitsOf (u64 ti) 64) hbi (by omega) (by simp [Pl.bitsOf_length]) HP1.out.bw).mono ?_
    rintro e w2 ⟨rfl, v2, hb2, hw2, hh2⟩
    obtain ⟨P2, B2⟩ := HP1.out.wrote hb2 hw2 hh2
    have HB2 := hide (HB1.out.trans (B2.below HP1.out.bw.bytes HP1.out.bw.lt))
    have HP2 := hide P2
    clear P2 B2 hb2 hw2 hh2 HP1 HB1 c4
    simp only [List.nil_append] at HP2
    by_cases hc1 : cap = 1
    · subst hc1
      obtain rfl : r = [] := List.eq_nil_of_length_eq_zero (by omega)
      simp only [List.length_nil] at hcap ⊢
      go_wp2
      refine wp_loop_rounds 1 ?_
      rw [rounds_succ]
      have c0 := HP2.out.bw.c0
      go_wp2
      go_ret
      exact ⟨_, rfl, by rw [chunkBits, goBits, List.append_nil]; exact HP2.out.bytes_ge, HB2.out⟩
    · have hc2 : 1 < cap := by omega
      go_wp2
      go_loopw [5, 30] (fun _ i wr => ∃ (k : Nat) (done : List Bool) (v' : Value) (t s b' a z : Nat), k ≤ r.length ∧ i = .int .i64 k ∧ PK wr w.heap.size v' (Pl.bitsOf (u64 ti) 64 ++ Pl.bitsOf bi 64 ++ done) t s b' a z ∧ Below w.heap.size w wr ∧
          t ≤ 18446744073709551615 ∧ s ≤ 18446744073709551615 ∧ b' ≤ 18446744073709551615 ∧ a + z ≤ 64 ∧ done.length ≤ 150 * k ∧ Hid (done ++ goBits t s b' a z (r.drop k) = goBits (u64 ti) 0 bi 0 0 r)) (fun _ i _ => r.length - (intOf i).toNat)
      case atStart => exact ⟨0, [], v2, _, _, _, _, _, Nat.zero_le _, rfl, by simpa using HP2.out, HB2.out, u64_le _, by omega, by omega, by omega, by simp, rfl⟩
      case round =>
        obtain ⟨k, done, v', t, s, b', a, z, hk, rfl, hP, hBl, ht, hs, hb', haz, hdl, HG⟩ := hrel
        clear HP2 HB2
        by_cases hlt : k < r.length
        · obtain ⟨⟨tk, bk⟩, hrk⟩ : ∃ y, r[k]? = some y := ⟨_, List.getElem?_eq_getElem hlt⟩
          have hyk := HW.out (tk, bk) (List.mem_cons_of_mem _ (List.mem_of_getElem? hrk))
          have hck := HC.out (k + 1) (tk, bk) (by simpa using hrk)
          have m0 : wr.cell? ⟨b, o + 2 + k * 2, none⟩ = some (.int .i64 tk) := by
            rw [hBl.cell (p := ⟨b, o + 2 + k * 2, none⟩) hbw, show o + 2 + k * 2 = o + (k + 1) * 2 by omega]; exact hck.1
          have m1 : wr.cell? ⟨b, o + 2 + k * 2 + 1, none⟩ = some (.int .u64 bk) := by
            rw [hBl.cell (p := ⟨b, o + 2 + k * 2 + 1, none⟩) hbw, show o + 2 + k * 2 + 1 = o + (k + 1) * 2 + 1 by omega]; exact hck.2
          have hwk := wrap_u64_int tk
          have hbk : bk ≤ 18446744073709551615 := hyk.2.2
          have hpb := hP.bw.lt
          have HP := hide hP
          have HBl := hide hBl
          have HR := hide hrk
          have hl1 : (Pl.bitsOf (u64 ti) 64 ++ Pl.bitsOf bi 64 ++ done).length ≤ 45128 := by
            rw [List.length_append, List.length_append, Pl.bitsOf_length, Pl.bitsOf_length]; omega
          have HL := hide hl1
          clear hP hBl hck hyk hl1 hrk hw0 hx
          go_wp2_with fail
          have K1 := HP.out.kept (w' := wr.alloc (.cells #[.int .i64 tk, .int .u64 bk] 34)) fun j hj => heap_alloc_old wr _ hj
          have hoB : some wr.heap.size ≠ v'.ownBlock := fun e => absurd (World.ownsRow.lt HP.out.bw.bytes _ e.symm).2 (Nat.lt_irrefl _)
          refine (putTime_any w.heap.size t s b' a z (u64 tk) v' _ _ ht hs (by have := HL.out; omega) K1).mono ?_
          rintro e w3 ⟨rfl, v3, P3, M3⟩
          have n1 : w3.cell? ⟨wr.heap.size, 1, none⟩ = some (.int .u64 bk) := (M3.cell_other (k := wr.heap.size) (by simp) (by omega) hoB 1).trans (World.cell?_alloc_new _ _ _ 1)
          have HB3 := hide ((HBl.out.alloc (by omega) (.cells #[.int .i64 tk, .int .u64 bk] 34)).trans (M3.below K1.bw.bytes K1.bw.lt))
          have hl3 := Nat.le_trans (timeBits_app (Pl.bitsOf (u64 ti) 64 ++ Pl.bitsOf bi 64 ++ done) t s (u64 tk)) (Nat.add_le_add_right HL.out 69)
          have HL3 := hide hl3
          have HP3 := hide P3
          clear P3 M3 K1 hoB hl3 m0 m1 HP HBl hwk
          go_wp2_with fail
          refine (putBits_any w.heap.size (u64 tk) (sub64 (u64 tk) t) b' a z bk v3 _ _ haz hb' hbk (by have := HL3.out; omega) HP3.out).mono ?_
          rintro e w4 ⟨rfl, v4, P4, M4⟩
          have HB4 := hide (HB3.out.trans (M4.below HP3.out.bw.bytes HP3.out.bw.lt))
          have HP4 := hide P4
          have HE := hide (step_eq (t := t) (s := s) (b := b') (a := a) (z := z) HR.out HG.out)
          have HD := hide (step_len (t := t) (s := s) (b := b') (a := a) (z := z) (y := (tk, bk)) hdl (by omega))
          have HA := hide (next_bounds a z (bk ^^^ b') haz (Nat.xor_lt_two_pow (by omega) (by omega)))
          clear P4 M4 HP3 HB3 HL HL3 HG n1
          go_wp2
          go_roundw
          case rel => exact ⟨k + 1, done ++ (timeBits t s (u64 tk) ++ bitBits a z (bk ^^^ b')), v4, _, _, _, _, _, by omega, by go_num, by rw [← List.append_assoc, ← List.append_assoc]; exact HP4.out, HB4.out, u64_le _, sub64_le _ _, hbk, HA.out, HD.out, HE.out⟩
          case measure => simp [intOf]; omega
        · have c0 := hP.bw.c0
          have HP := hide hP
          have HBl := hide hBl
          clear hP hBl
          go_wp2
          go_ret
          have hd : done = goBits (u64 ti) 0 bi 0 0 r := by
            have h := HG.out
            rw [List.drop_eq_nil_of_le (by omega), goBits, List.append_nil] at h
            exact h
          exact ⟨_, rfl, by rw [chunkBits, ← hd]; exact HP.out.bytes_ge, HBl.out⟩
end Go.Proofs.YtamcclcbmenjdaaGreatDoor

/- append(b, s...), with the block that the slice lives in; slices of strings, and numberOf. -/
namespace Go.Proofs.YtamcclcbmenjdaaGreatDoor
open Go.RowKit Go.Lib

section
variable {P : Program} (w : World)
theorem wpList_append_heir_string {ops : Array Oper} {rest : List Oper} {o : Oper} {a : Act} {Q : Exit → Act → World → Prop} (hgd : o.guard = none) (sl x : Operand) (t u : TypeId)
    (ho : o.op = .call { callee := .builtin .append, args := #[sl, x], argTypes := #[t, u] })
    (base : Nat) (e : TypeId) (i : TypeInfo) (ht : P.underlying t = some (.slice e)) (hu : P.underlying u = some .string) (hi : P.info? e = some i) (hz : i.zero = some (.int .u8 0))
    (hsize : i.size = 1) (hby : i.bytes = 1)
    (v : Value) (n : Nat) (xs : List Value) (hs : a.eval sl = v) (hown : w.ownsRow base e 1 v n xs) (s : ByteArray) (hx : a.eval x = .string s)
    (h63 : n + s.size ≤ maxLen) (hbytes : n + s.size ≤ 140737488355328) (hbase : base ≤ w.heap.size)
    (h : ∀ v' w', w'.ownsRow base e 1 v' (n + s.size) (xs ++ strCells s) → w.grownBy w' v.ownBlock → Heir w v v' → wpList P ops Q rest (a.put o.dst v') w') : wpList P ops Q (o :: rest) a w := by
  refine wpList_plain hgd fun K hK => ?_
  obtain ⟨v', w', hr, h2, h3, _⟩ := run_append_own_string (P := P) w base t u o.type e i ht hu hi hz hsize hby v n xs hown s h63 hbytes hbase
  have hh : Heir w v v' := by
    rcases hown.2 with ⟨rfl, rfl⟩ | ⟨g, cap, cur, rfl, hbg, hgg, hnc, hcm, hcs, htake⟩
    · have hx : xs = [] := List.eq_nil_of_length_eq_zero (by simpa using hown.1)
      subst hx
      obtain ⟨v2, w2, hr2, ho2, _, _⟩ := run_append_own_string (P := P) w w.heap.size t u o.type e i ht hu hi hz hsize hby (.slice none 0 0) 0 [] (World.ownsRow_nil _ _ _ _) s h63 hbytes (Nat.le_refl _)
      rw [hr] at hr2
      cases hr2
      rcases ho2.2 with ⟨rfl, _⟩ | ⟨g, cap, cur, rfl, hb, _⟩
      · exact .inl rfl
      · exact .inr ⟨g, rfl, hb⟩
    · by_cases hroom : n + s.size ≤ cap
      · have hr2 := run_append_room_string (P := P) w t u o.type e i ht hu hi hsize g n cap cur hgg s hroom (by omega)
        rw [hr] at hr2
        cases hr2
        exact .inl rfl
      · have holds : ∀ j u, xs[j]? = some u → w.cell? ((⟨g, 0, none⟩ : Addr).add j) = some u := hown.cells (g := g) rfl
        have hr2 := run_append_grow_string (P := P) w t u o.type e i (.int .u8 0) ht hu hi hz ⟨g, 0, none⟩ n cap xs (by rw [hsize]; exact hown.1) holds s (by omega) (by simp only [maxLen] at h63; omega) (growslice_fits (by simp only [maxLen] at h63; omega) (by rw [hby]; omega))
        rw [hr] at hr2
        cases hr2
        exact .inr ⟨_, rfl, Nat.le_refl _⟩
  unfold Oper.wp execOp
  simp only [ho, resolve, invoke, builtin, Sem.run_bind, Sem.run_pure, Result.andThen_ok, List.map_toArray, List.map_cons, List.map_nil, hs, hx, hr]
  exact hK _ _ (h v' w' h2 h3 hh)
end

/-- A slice of strings in block b. -/
structure TextsAt (w : World) (v : Value) (b : Nat) (l : List ByteArray) : Prop where
  shape : (l = [] ∧ ∃ a c, v = .slice a 0 c) ∨ ∃ o c, v = .slice (some ⟨b, o, none⟩) l.length c ∧ ∀ i x, l[i]? = some x → w.cell? ⟨b, o + i, none⟩ = some (.string x)

theorem TextsAt.kept {w w' : World} {v : Value} {b : Nat} {l : List ByteArray} (h : TextsAt w v b l) (hk : w'.heap[b]? = w.heap[b]?) : TextsAt w' v b l := by
  refine ⟨?_⟩
  rcases h.shape with h | ⟨o, c, hv, hc⟩
  · exact .inl h
  · exact .inr ⟨o, c, hv, fun i x hx => (World.cell?_of_block (a := ⟨b, o + i, none⟩) hk).trans (hc i x hx)⟩

/-- Where a text stands among sorted ones. -/
def placeOf (l : List ByteArray) (x : ByteArray) : Nat := Lib.bsGo (fun t => Op.bytesLess (l.getD t ByteArray.empty).toList x.toList) l.length 0 l.length

theorem binarySearch_any (v : Value) (b : Nat) (l : List ByteArray) (x : ByteArray) (w : World) (ht : TextsAt w v b l) (hl : l.length ≤ 1000000) :
    Calls Tryz.prog 155 #[v, .string x] w fun e w' => (∃ k, e = .returned (.tuple #[.int .i64 (placeOf l x), .bool k])) ∧ ∃ q, w' = w.drewN q := by
  rcases ht.shape with ⟨rfl, a, c, rfl⟩ | ⟨o, c, rfl, hc⟩
  · refine (Any2.slices_BinarySearch_string_empty Tryz.laysBs a c x w).mono ?_
    rintro e w' ⟨rfl, rfl⟩
    exact ⟨⟨false, rfl⟩, 0, rfl⟩
  · refine (Any2.slices_BinarySearch_string Tryz.laysBs b o l.length c (fun t => l.getD t ByteArray.empty) x w (by omega) ?_).mono ?_
    · intro j hj
      have := hc j l[j] (List.getElem?_eq_getElem hj)
      rw [this, List.getD_eq_getElem?_getD, List.getElem?_eq_getElem hj]; rfl
    · rintro e w' ⟨rfl, q, rfl⟩
      exact ⟨⟨_, rfl⟩, q, rfl⟩

set_option maxHeartbeats 400000 in
theorem numberOf_any (v : Value) (b : Nat) (l : List ByteArray) (x : ByteArray) (w : World) (ht : TextsAt w v b l) (hl : l.length ≤ 1000000) :
    Calls Tryz.prog 137 #[v, .string x] w fun e w' => e = .returned (.int .i64 (placeOf l x)) ∧ ∃ q, w' = w.drewN q := by
  have HT := hide ht
  clear ht
  go_enter Tryz.func137, Tryz.ntmps137
  go_wp2_with fail
  refine (binarySearch_any v b l x _ HT.out hl).mono ?_
  rintro e w' ⟨⟨k, rfl⟩, q, rfl⟩
  go_wp2
  go_ret
  exact ⟨rfl, q, rfl⟩
end Go.Proofs.YtamcclcbmenjdaaGreatDoor

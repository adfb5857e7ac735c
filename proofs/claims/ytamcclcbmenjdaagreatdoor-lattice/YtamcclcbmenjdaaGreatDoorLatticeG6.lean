/- 'choirkeep.Lattice', for any three lists of raw samples: joins do not hang on order, grouping and how often; with bytes and without it is the same. The first form's statement and its card: no condition beside the row's own. -/
import Derived.Test.YtamcclcbmenjdaaGreatDoorLatticeG5
import Derived.Test.YtamcclcbmenjdaaGreatDoorLatticeG1
import Derived.Test.YtamcclcbmenjdaaGreatDoorProg
import Derived.Test.YtamcclcbmenjdaaGreatDoorLatticeG3
import Derived.WalkKit
import Derived.WalkSpells
import Derived.WalkLawsBesides
import Derived.Test.YtamcclcbmenjdaaGreatDoorShelf
import Derived.BigQuiet
import Derived.Deep.QuietTactic
/- The bit writer: put, putMark. -/
namespace Go.Proofs.YtamcclcbmenjdaaGreatDoor
open Go.RowKit

theorem and1_shift (n j : Nat) (hn : n < 18446744073709551616) : Go.bits .and .u64 ((n : Int) / 2 ^ j) 1 % 256 = ((n / 2 ^ j % 2 : Nat) : Int) := by
  have h1 : ((n : Int) / 2 ^ j) = ((n / 2 ^ j : Nat) : Int) := by simp
  have hlt : n / 2 ^ j < 18446744073709551616 := Nat.lt_of_le_of_lt (Nat.div_le_self _ _) hn
  have h2 := bits_and_u64_nat (n / 2 ^ j) 1 hlt (by decide)
  rw [h1]
  rw [show ((1 : Nat) : Int) = 1 from rfl] at h2
  rw [h2, Nat.and_one_is_mod]
  omega

set_option maxRecDepth 100000 in
set_option maxHeartbeats 400000 in
theorem put_any (pb po n width : Nat) (v : Value) (w : World) (bits : List Bool) (hn : n < 18446744073709551616) (hwd : width ≤ 64) (hnb : bits.length ≤ 1000000000) (H : BW w pb po v bits) :
    Calls Tryz.prog 156 #[.pointer (some ⟨pb, po, none⟩), .int .u64 n, .int .i64 width] w fun e w' => e = .returned (.tuple #[]) ∧
      ∃ v', BW w' pb po v' (bits ++ Pl.bitsOf n width) ∧ Wrote w w' pb po v.ownBlock ∧ Heir w v v' := by
  go_enter Tryz.func156, Tryz.ntmps156
  go_wp2
  go_loopw [6] (fun i wr => ∃ (k : Nat) (done : List Bool) (v' : Value), k ≤ width ∧ i = .int .i64 ((k : Int) - 1) ∧ done.length + k = width ∧ Hid (done ++ Pl.bitsOf n k = Pl.bitsOf n width) ∧ BW wr pb po v' (bits ++ done) ∧ Wrote w wr pb po v.ownBlock ∧ Heir w v v') (fun i _ => (intOf i + 1).toNat)
  case atStart => exact ⟨width, [], v, Nat.le_refl _, rfl, by simp, rfl, by simpa using H, Wrote.refl _ _ _ _, Heir.refl _ _⟩
  case round =>
    obtain ⟨k, done, v', hk, rfl, hl, HD, hbw, hwr, hh⟩ := hrel
    have HB := hide hbw
    have HW := hide hwr
    have HH := hide hh
    clear hbw hwr hh H
    cases k with
    | zero =>
      go_wp2_with fail
      go_end0
      have e : done = Pl.bitsOf n width := by have := HD.out; simpa [Pl.bitsOf] using this
      exact ⟨rfl, v', by rw [← e]; exact HB.out, HW.out, HH.out⟩
    | succ j =>
      have harg := and1_shift n j hn
      go_wp2_with fail
      rw [harg]
      refine (putBit_any pb po (n / 2 ^ j % 2) v' wr _ (by omega) (by simp; omega) HB.out).mono ?_
      rintro e w' ⟨rfl, v2, hb2, hw2, hh2⟩
      have B2 := hide hb2
      have W2 := hide (HW.out.trans hw2 HH.out)
      have H2 := hide (HH.out.trans hh2 HW.out.size)
      clear hb2 hw2 hh2 HB HW HH harg
      go_wp2
      go_roundw
      case rel => exact ⟨j, done ++ [n / 2 ^ j % 2 == 1], v2, by omega, by go_num, by simp; omega, by show _ = _; rw [← HD.out]; simp [Pl.bitsOf], by rw [← List.append_assoc]; exact B2.out, W2.out, H2.out⟩
      case measure => simp [intOf]

/-- A mark: so many ones, and a zero where it is not the last. -/
def markOf (v last : Nat) : List Bool := List.replicate v true ++ (if v < last then [false] else [])

set_option maxRecDepth 100000 in
set_option maxHeartbeats 400000 in
theorem putMark_any (pb po q last : Nat) (v : Value) (w : World) (bits : List Bool) (hq : q ≤ 4) (hlast : last ≤ 4) (hnb : bits.length ≤ 1000000000) (H : BW w pb po v bits) :
    Calls Tryz.prog 188 #[.pointer (some ⟨pb, po, none⟩), .int .i64 q, .int .i64 last] w fun e w' => e = .returned (.tuple #[]) ∧
      ∃ v', BW w' pb po v' (bits ++ markOf q last) ∧ Wrote w w' pb po v.ownBlock ∧ Heir w v v' := by
  go_enter Tryz.func188, Tryz.ntmps188
  go_wp2
  go_loopw [7] (fun i wr => ∃ (k : Nat) (v' : Value), k ≤ q ∧ i = .int .i64 k ∧ BW wr pb po v' (bits ++ List.replicate k true) ∧ Wrote w wr pb po v.ownBlock ∧ Heir w v v') (fun i _ => q - (intOf i).toNat)
  case atStart => exact ⟨0, v, Nat.zero_le _, rfl, by simpa using H, Wrote.refl _ _ _ _, Heir.refl _ _⟩
  case round =>
    obtain ⟨k, v', hk, rfl, hbw, hwr, hh⟩ := hrel
    have HB := hide hbw
    have HW := hide hwr
    have HH := hide hh
    clear hbw hwr hh H
    by_cases hlt : k < q
    · go_wp2_with fail
      refine (putBit_any pb po 1 v' wr _ (by omega) (by simp; omega) HB.out).mono ?_
      rintro e w' ⟨rfl, v2, hb2, hw2, hh2⟩
      have B2 := hide hb2
      have W2 := hide (HW.out.trans hw2 HH.out)
      have H2 := hide (HH.out.trans hh2 HW.out.size)
      clear hb2 hw2 hh2 HB HW HH
      go_wp2
      go_roundw
      case rel => exact ⟨k + 1, v2, by omega, by go_num, by rw [List.replicate_succ', ← List.append_assoc]; exact B2.out, W2.out, H2.out⟩
      case measure => simp [intOf]; omega
    · obtain rfl : k = q := by omega
      by_cases hl : k < last
      · go_wp2_with fail
        refine (putBit_any pb po 0 v' wr _ (by omega) (by simp; omega) HB.out).mono ?_
        rintro e w' ⟨rfl, v2, hb2, hw2, hh2⟩
        have B2 := hide hb2
        have W2 := hide (HW.out.trans hw2 HH.out)
        have H2 := hide (HH.out.trans hh2 HW.out.size)
        clear hb2 hw2 hh2 HB HW HH
        go_wp2
        go_end0
        exact ⟨rfl, v2, by rw [markOf, if_pos hl, ← List.append_assoc]; exact B2.out, W2.out, H2.out⟩
      · go_wp2_with fail
        go_end0
        exact ⟨rfl, v', by rw [markOf, if_neg hl, List.append_nil]; exact HB.out, HW.out, HH.out⟩
end Go.Proofs.YtamcclcbmenjdaaGreatDoor

/- The sum: the contract of frame.sum. -/
namespace Go.Proofs.YtamcclcbmenjdaaGreatDoor
open Go.RowKit

theorem val_int {k : IntKind} {a b : Int} (h : a = b) : Value.int k a = .int k b := by rw [h]
theorem take_snoc (s : ByteArray) (k : Nat) (h : k < s.size) : s.data.toList.take (k + 1) = s.data.toList.take k ++ [s[k]] := by
  rw [List.take_succ_eq_append_getElem (by simpa using h)]; rfl

set_option maxHeartbeats 400000 in
theorem sum_any (s : ByteArray) (w : World) (hs : s.size ≤ maxLen) :
    Calls Tryz.prog 119 #[.string s] w fun e w' => e = .returned (.int .u32 (Pl.crc s.data.toList)) ∧ w' = w := by
  unfold maxLen at hs
  go_enter Tryz.func119, Tryz.ntmps119
  go_wp2
  go_loop [3, 8] (fun n j => ∃ (k x : Nat), k ≤ s.size ∧ j = .int .i64 k ∧ n = .int .u32 x ∧ x < 2 ^ 32 ∧ Hid (x = Pl.crcAll 4294967295 (s.data.toList.take k))) (fun _ j => s.size - (intOf j).toNat)
  case atStart => exact ⟨0, 4294967295, by omega, rfl, rfl, by decide, rfl⟩
  case round =>
    obtain ⟨k, x, hk, rfl, rfl, hx, HX⟩ := hrel
    by_cases hlt : k < s.size
    · have hb : s[k].toNat < 256 := s[k].toNat_lt
      have hbx : bits .xor .u32 (x : Int) (s[k].toNat : Int) = ((x ^^^ s[k].toNat : Nat) : Int) := Pl.bits_xor_u32_nat _ _ hx (by omega)
      have hy : x ^^^ s[k].toNat < 2 ^ 32 := Nat.xor_lt_two_pow hx (by omega)
      have HY : Hid (Pl.crcIt 8 (x ^^^ s[k].toNat) = Pl.crcAll 4294967295 (s.data.toList.take (k + 1))) := by
        show Pl.crcByte x s[k] = _
        rw [take_snoc s k hlt, Pl.crcAll_snoc, ← HX.out]
      clear HX
      generalize x ^^^ s[k].toNat = y at *
      go_wp2
      go_loop [3, 5, 17] (fun n odd l => ∃ (i z : Nat), i ≤ 8 ∧ l = .int .i64 i ∧ n = .int .u32 z ∧ z < 2 ^ 32 ∧ Hid (z = Pl.crcIt i y)) (fun _ _ l => 8 - (intOf l).toNat)
      case atStart => exact ⟨0, y, by omega, rfl, rfl, hy, rfl⟩
      case round =>
        obtain ⟨i, z, hi, rfl, rfl, hz, HZ⟩ := hrel
        have hand := Pl.bits_and1_u32 z hz
        by_cases hil : i < 8
        · by_cases hodd : z % 2 = 1
          · have ht : ((z % 2 : Nat) : Int) = 1 := by omega
            have HN : Hid (Pl.crcBit z = (z / 2) ^^^ 2197175160) := by show Pl.crcBit z = _; rw [Pl.crcBit, if_pos hodd]
            have hx2 : bits .xor .u32 ((z : Int) / 2) 2197175160 = (((z / 2) ^^^ 2197175160 : Nat) : Int) := by
              have := Pl.bits_xor_u32_nat (z / 2) 2197175160 (by omega) (by decide)
              simpa using this
            go_wp2
            go_round
            case rel => exact ⟨i + 1, _, by omega, by go_num, rfl, Nat.xor_lt_two_pow (by omega) (by decide), by show _ = Pl.crcBit (Pl.crcIt i y); rw [← HZ.out]; exact HN.out.symm⟩
            case measure => simp [intOf]; omega
          · have ht : ((z % 2 : Nat) : Int) = 0 := by omega
            go_wp2
            go_round
            case rel => exact ⟨i + 1, z / 2, by omega, by go_num, by go_num, by omega, by show _ = Pl.crcBit (Pl.crcIt i y); rw [← HZ.out, Pl.crcBit, if_neg hodd]⟩
            case measure => simp [intOf]; omega
        · obtain rfl : i = 8 := by omega
          go_wp2
          go_round
          case rel => exact ⟨k + 1, z, by omega, by go_num, rfl, hz, by show z = _; rw [HZ.out]; exact HY.out⟩
          case measure => simp [intOf]; omega
    · go_wp2
      go_ret
      obtain rfl : k = s.size := by omega
      have h1 : x = Pl.crcAll 4294967295 s.data.toList := by rw [HX.out, List.take_of_length_le (by simp)]
      exact ⟨ret_int (by rw [Pl.crc, ← h1, show IntKind.u32.max = ((4294967295 : Nat) : Int) by decide, Pl.bits_xor_u32_nat _ _ (by decide) hx, Nat.xor_comm]), rfl⟩
end Go.Proofs.YtamcclcbmenjdaaGreatDoor

/- The tables, the library's bit functions, and the window's methods. -/
namespace Go.Proofs.YtamcclcbmenjdaaGreatDoor
open Go.RowKit

/-- What the package variables hold: the ways of a step, and the library's table. -/
structure Tabs (w : World) : Prop where
  s0 : w.cell? ⟨0, 0, none⟩ = some (.int .i64 0)
  s1 : w.cell? ⟨0, 1, none⟩ = some (.int .u64 0)
  s2 : w.cell? ⟨0, 2, none⟩ = some (.int .i64 7)
  s3 : w.cell? ⟨0, 3, none⟩ = some (.int .u64 63)
  s4 : w.cell? ⟨0, 4, none⟩ = some (.int .i64 9)
  s5 : w.cell? ⟨0, 5, none⟩ = some (.int .u64 255)
  s6 : w.cell? ⟨0, 6, none⟩ = some (.int .i64 12)
  s7 : w.cell? ⟨0, 7, none⟩ = some (.int .u64 2047)
  s8 : w.cell? ⟨0, 8, none⟩ = some (.int .i64 64)
  s9 : w.cell? ⟨0, 9, none⟩ = some (.int .u64 0)
  tz : TabAt 2 Lib.deBruijn64tab w

theorem Tabs.lt {w : World} (h : Tabs w) : 2 < w.heap.size := by
  have := World.block_lt_of_cell? w _ (h.tz 0 (by decide)); exact this
theorem Tabs.kept {w w' : World} (h : Tabs w) (h0 : w'.heap[0]? = w.heap[0]?) (h2 : w'.heap[2]? = w.heap[2]?) : Tabs w' := by
  have e : ∀ o, w'.cell? ⟨0, o, none⟩ = w.cell? ⟨0, o, none⟩ := fun o => World.cell?_of_block (a := ⟨0, o, none⟩) h0
  exact ⟨(e 0).trans h.s0, (e 1).trans h.s1, (e 2).trans h.s2, (e 3).trans h.s3, (e 4).trans h.s4, (e 5).trans h.s5, (e 6).trans h.s6, (e 7).trans h.s7, (e 8).trans h.s8, (e 9).trans h.s9,
    fun j hj => (World.cell?_of_block (a := ⟨2, j, none⟩) h2).trans (h.tz j hj)⟩
theorem Tabs.below {w w' : World} {B : Nat} (h : Tabs w) (hb : Below B w w') (hB : 3 ≤ B) : Tabs w' := h.kept (hb.block _ (by omega)) (hb.block _ (by omega))
theorem Tabs.alloc {w : World} (h : Tabs w) (o : Obj) : Tabs (w.alloc o) := h.below (B := w.heap.size) ((Below.refl _ _).alloc (Nat.le_refl _) o) (by have := h.lt; omega)
theorem Tabs.drew {w : World} (h : Tabs w) : Tabs w.drew := h.kept rfl rfl
theorem Tabs.wrote {w w' : World} {pb po : Nat} {v : Value} {xs : List UInt8} (h : Tabs w) (hw : Wrote w w' pb po v.ownBlock) (hb : Bytes (pb + 1) w v xs) (hp : 3 ≤ pb) : Tabs w' := by
  have hl := h.lt
  exact h.kept (hw.block _ (by omega) (by omega) (fun e => own_ne hb (by omega) e.symm)) (hw.block _ (by omega) (by omega) (fun e => own_ne hb (by omega) e.symm))

/-- How many zero bits are ahead, and behind, in 64. -/
def lz (x : Nat) : Nat := 64 - Lib.bitLen x
def tz (x : Nat) : Nat := Lib.ctz 64 x
theorem bitLenAux_le (f x : Nat) : Lib.bitLenAux f x ≤ f := by
  induction f generalizing x with
  | zero => simp [Lib.bitLenAux]
  | succ f ih => unfold Lib.bitLenAux; split <;> have := ih (x / 2) <;> omega
theorem lz_any (x : Nat) (w : World) (hx : x ≤ 18446744073709551615) :
    Calls Tryz.prog 206 #[.int .u64 x] w fun e w' => e = .returned (.int .i64 (lz x)) ∧ w' = w := by
  refine (Tryz.bits_LeadingZeros64 x w (by omega) (by omega)).mono ?_
  rintro e w' ⟨rfl, rfl⟩
  have : Lib.bitLen x ≤ 64 := bitLenAux_le 64 x
  exact ⟨ret_int (by simp [lz]; omega), rfl⟩
theorem tz_any (x : Nat) (w : World) (hx : x ≤ 18446744073709551615) (ht : Tabs w) :
    Calls Tryz.prog 207 #[.int .u64 x] w fun e w' => e = .returned (.int .i64 (tz x)) ∧ w' = w :=
  Any7.bits_TrailingZeros64 Tryz.laysTz x (by omega) w (fun _ => ht.tz)

set_option maxHeartbeats 400000 in
theorem behind_any (a s : Nat) (w : World) (ha : a ≤ 64) (hs : s ≤ 64) :
    Calls Tryz.prog 173 #[.agg #[.int .i64 a, .int .i64 s]] w fun e w' => e = .returned (.int .i64 (64 - (a : Int) - s)) ∧ w' = w.alloc (.cells #[.int .i64 a, .int .i64 s] 212) := by
  go_enter Tryz.func173, Tryz.ntmps173
  go_wp2
  go_ret
  exact ⟨rfl, rfl⟩

/-- Does a window of s bits behind a hold all bits of x that are 1? -/
def holdsB (a s x : Nat) : Bool := decide (0 < s) && (decide (a ≤ lz x) && decide (64 - (a : Int) - s ≤ tz x))

set_option maxRecDepth 100000 in
set_option maxHeartbeats 400000 in
theorem holds_yes (a s x : Nat) (w : World) (ha : a ≤ 64) (hs : s ≤ 64) (hx : x ≤ 18446744073709551615) (ht : Tabs w) (h1 : 0 < s) (h2 : a ≤ lz x) :
    Calls Tryz.prog 205 #[.agg #[.int .i64 a, .int .i64 s], .int .u64 x] w fun e w' => e = .returned (.bool (decide (64 - (a : Int) - s ≤ tz x))) ∧ Below w.heap.size w w' := by
  have g1 : (0 : Int) < s := by omega
  have g2 : (a : Int) ≤ (lz x : Int) := by omega
  have ht2 := fun o => ht.alloc o
  have HT := hide ht2
  clear ht ht2
  go_enter Tryz.func205, Tryz.ntmps205
  go_wp2
  go_region_with (first | (go_at_call 206; refine (lz_any _ _ hx).mono ?_; rintro e w' ⟨rfl, rfl⟩) | (go_at_call 207; refine (tz_any _ _ hx (by exact (HT.out _).drew)).mono ?_; rintro e w' ⟨rfl, rfl⟩) | (go_at_call 173; refine (behind_any _ _ _ ha hs).mono ?_; rintro e w' ⟨rfl, rfl⟩))
  all_goals (go_wp2; go_ret; exact ⟨rfl, (((Below.refl _ _).alloc (Nat.le_refl _) _).alloc (by simp) _).drew⟩)

set_option maxRecDepth 100000 in
set_option maxHeartbeats 400000 in
theorem holds_far (a s x : Nat) (w : World) (hx : x ≤ 18446744073709551615) (h1 : 0 < s) (h2 : ¬ a ≤ lz x) :
    Calls Tryz.prog 205 #[.agg #[.int .i64 a, .int .i64 s], .int .u64 x] w fun e w' => e = .returned (.bool false) ∧ Below w.heap.size w w' := by
  have g1 : (0 : Int) < s := by omega
  have g2 : decide ((a : Int) ≤ (lz x : Int)) = false := by simp; omega
  go_enter Tryz.func205, Tryz.ntmps205
  go_wp2
  go_quiet ((go_at_call 206; exact Calls.quiet_of_same (lz_any _ _ hx)))
  go_wp2
  go_ret
  exact ⟨rfl, below_drewN ((Below.refl _ _).alloc (Nat.le_refl _) _) _⟩

set_option maxRecDepth 100000 in
set_option maxHeartbeats 400000 in
theorem holds_none (a x : Nat) (w : World) :
    Calls Tryz.prog 205 #[.agg #[.int .i64 a, .int .i64 0], .int .u64 x] w fun e w' => e = .returned (.bool false) ∧ Below w.heap.size w w' := by
  go_enter Tryz.func205, Tryz.ntmps205
  go_wp2
  go_quiet (fail)
  go_wp2
  go_ret
  exact ⟨rfl, below_drewN ((Below.refl _ _).alloc (Nat.le_refl _) _) _⟩

theorem holds_any (a s x : Nat) (w : World) (ha : a ≤ 64) (hs : s ≤ 64) (hx : x ≤ 18446744073709551615) (ht : Tabs w) :
    Calls Tryz.prog 205 #[.agg #[.int .i64 a, .int .i64 s], .int .u64 x] w fun e w' => e = .returned (.bool (holdsB a s x)) ∧ Below w.heap.size w w' := by
  by_cases h1 : 0 < s
  · by_cases h2 : a ≤ lz x
    · refine (holds_yes a s x w ha hs hx ht h1 h2).mono ?_
      rintro e w' ⟨rfl, hb⟩
      exact ⟨by simp [holdsB, h1, h2], hb⟩
    · refine (holds_far a s x w hx h1 h2).mono ?_
      rintro e w' ⟨rfl, hb⟩
      exact ⟨by simp [holdsB, h2], hb⟩
  · obtain rfl : s = 0 := by omega
    refine (holds_none a x w).mono ?_
    rintro e w' ⟨rfl, hb⟩
    exact ⟨by simp [holdsB], hb⟩

/-- In which way x is told: as nothing, in the window, in a new one. -/
def wayOf (a s x : Nat) : Nat := if x = 0 then 0 else if holdsB a s x then 1 else 2

set_option maxRecDepth 100000 in
set_option maxHeartbeats 400000 in
theorem wayOf_any (a s x : Nat) (w : World) (ha : a ≤ 64) (hs : s ≤ 64) (hx : x ≤ 18446744073709551615) (ht : Tabs w) :
    Calls Tryz.prog 189 #[.agg #[.int .i64 a, .int .i64 s], .int .u64 x] w fun e w' => e = .returned (.int .i64 (wayOf a s x)) ∧ Below w.heap.size w w' := by
  by_cases h0 : x = 0
  · subst h0
    go_enter Tryz.func189, Tryz.ntmps189
    go_wp2
    go_ret
    exact ⟨rfl, (Below.refl _ _).alloc (Nat.le_refl _) _⟩
  · have hx0 : ((x : Int) == 0) = false := by simp; omega
    have hw : wayOf a s x = if holdsB a s x = true then 1 else 2 := by simp [wayOf, h0]
    have HT := hide ht
    have HW := hide hw
    clear ht hw
    go_enter Tryz.func189, Tryz.ntmps189
    go_wp2_with fail
    refine (holds_any a s x _ ha hs hx (HT.out.alloc _)).mono ?_
    rintro e w' ⟨rfl, hb⟩
    have HB := hide (((Below.refl w.heap.size w).alloc (Nat.le_refl _) _).trans (hb.mono (by simp)))
    clear hb
    cases hh : holdsB a s x
    all_goals
      rw [hh] at HW
      clear hh
      go_wp2
      go_ret
      exact ⟨by rw [HW.out]; rfl, HB.out⟩
end Go.Proofs.YtamcclcbmenjdaaGreatDoor

/- 'choirkeep.Lattice', for any three lists of raw samples: joins do not hang on order, grouping and how often; with bytes and without it is the same. The first form's statement and its card: no condition beside the row's own. -/
import Derived.Test.YtamcclcbmenjdaaGreatDoorLatticeG28
import Derived.Test.YtamcclcbmenjdaaGreatDoorInRaw
import Derived.Test.YtamcclcbmenjdaaGreatDoorRows
import Derived.Deep.Slices
import Derived.Deep.Strs
import Derived.Lib.LaidTab
import Derived.OpenShut
import Derived.SizedLaws
import Derived.ProofKit
import Derived.Test.YtamcclcbmenjdaaGreatDoorLatticeG1
import Derived.Test.YtamcclcbmenjdaaGreatDoorLatticeG29
import Derived.Test.YtamcclcbmenjdaaGreatDoorLatticeG30
/- What the given rows' conditions mean in memory: the tables, a list of raw samples; and packed. -/
namespace Go.Proofs.YtamcclcbmenjdaaGreatDoor
open Go.RowKit Go.Lib Go.ChangeShapes Go.WideShapes

theorem gDebType : (Tryz.prog.globals[2]?).map (·.type) = some 284 := by kernel_rfl
theorem gStepType : (Tryz.prog.globals[0]?).map (·.type) = some 244 := by kernel_rfl
theorem cellsDeb : Tryz.prog.cellsOf 284 = 64 := by kernel_rfl
theorem cellsU8 : Tryz.prog.cellsOf 5 = 1 := by kernel_rfl
theorem cellsInt : Tryz.prog.cellsOf 3 = 1 := by kernel_rfl
theorem cellsU64 : Tryz.prog.cellsOf 32 = 1 := by kernel_rfl
theorem cellsRule : Tryz.prog.cellsOf 243 = 2 := by kernel_rfl
theorem rule_cells {H : Type} {enc : TypeId × Value → H} {w : World} {base fuel : Nat} {sp : Nat → Bool} {held : Bool} {cs : List Value} {a b : Int} {x : DataW H × List MemPlace}
    (h : DataW.trod enc Tryz.prog w base sp held fuel 243 cs = some x) (hx : x.1 = .agg [.lit (.int .i64 a), .lit (.int .u64 b)]) : cs = [.int .i64 a, .int .u64 b] := by
  obtain ⟨y0, y1, n, rfl, hl, h0, h1⟩ := trod_struct2 Tryz.underlying243 h
  rw [cellsRule] at hl
  simp only [cellsInt, cellsU64] at h0 h1
  obtain ⟨m0, e0, rfl, _⟩ := DataW.trod_int Tryz.underlying3 h0
  obtain ⟨m1, e1, rfl, _⟩ := DataW.trod_int Tryz.underlying32 h1
  simp only [DataW.agg.injEq, List.cons.injEq, DataW.lit.injEq, Lit.int.injEq, true_and, and_true] at hx
  obtain ⟨rfl, rfl⟩ := hx
  match cs, hl with
  | [c0, c1], _ =>
    simp at e0 e1
    rw [e0, e1]
theorem tabs_of {W : World} (h : laidMetH Tryz.prog Rows.readsRow.laid W) : Tabs W := by
  have h' : laidMet Tryz.prog Rows.readsRow.laid W := h
  obtain ⟨ps, ⟨g1, t1, cs1, fuel1, p1, q1, hg1, ht1, hvar1, hd1, ⟨g, t, cs, fuel, p, q, hg, ht, hvar, hd, _, _⟩, _⟩, _⟩ := h'
  have e1 : some g1 = some 2 := hg1.symm.trans (by kernel_rfl)
  obtain rfl := Option.some.inj e1
  obtain rfl := Option.some.inj (gDebType.symm.trans ht1)
  have e2 : some g = some 0 := hg.symm.trans (by kernel_rfl)
  obtain rfl := Option.some.inj e2
  obtain rfl := Option.some.inj (gStepType.symm.trans ht)
  have hz : cs1.toList = (Lib.deBruijn64tab.map fun (n : Nat) => (n : Int)).map fun z => Value.int .u8 z := Lib.cells_of_tab Tryz.underlying284 Tryz.underlying5 cellsU8 cellsDeb hd1
  have htz : TabAt 2 Lib.deBruijn64tab W := fun j hj => by
    rw [World.var?_cell hg1 hvar1 j, ← Array.getElem?_toList, hz]
    simp [List.getD, hj]
  obtain ⟨xs, m, _, hx, hcl, hxl, hel⟩ := DataW.trod_array Tryz.underlying244 hd
  have hx1 : (DataW.agg (xs.map (·.1)) : DataW Unit) = Rows.laid_choir_frame_stepRules := (congrArg Prod.fst hx).symm
  rw [cellsRule] at hel
  match xs, hxl, hx1, hel with
  | [x0, x1, x2, x3, x4], _, hx1, hel =>
    simp only [Rows.laid_choir_frame_stepRules, List.map_cons, List.map_nil, DataW.agg.injEq, List.cons.injEq, and_true] at hx1
    obtain ⟨d0, d1, d2, d3, d4⟩ := hx1
    have hc : ∀ i, W.cell? ⟨0, i, none⟩ = cs.toList[i]? := fun i => by rw [World.var?_cell hg hvar i]; simp
    have r0 := rule_cells (hel 0 (by omega)) d0
    have r1 := rule_cells (hel 1 (by omega)) d1
    have r2 := rule_cells (hel 2 (by omega)) d2
    have r3 := rule_cells (hel 3 (by omega)) d3
    have r4 := rule_cells (hel 4 (by omega)) d4
    have hp : ∀ (i : Nat) (a b : Value), (cs.toList.drop (i * 2)).take 2 = [a, b] → cs.toList[i * 2]? = some a ∧ cs.toList[i * 2 + 1]? = some b := fun i a b e => by
      have e0 := congrArg (·[0]?) e
      have e1 := congrArg (·[1]?) e
      simp [List.getElem?_drop] at e0 e1
      exact ⟨by simpa using e0, by simpa using e1⟩
    have p0 := hp 0 _ _ r0
    have p1 := hp 1 _ _ r1
    have p2 := hp 2 _ _ r2
    have p3 := hp 3 _ _ r3
    have p4 := hp 4 _ _ r4
    exact ⟨(hc 0).trans p0.1, (hc 1).trans p0.2, (hc 2).trans p1.1, (hc 3).trans p1.2, (hc 4).trans p2.1, (hc 5).trans p2.2, (hc 6).trans p3.1, (hc 7).trans p3.2, (hc 8).trans p4.1, (hc 9).trans p4.2, htz⟩

set_option maxHeartbeats 400000 in
theorem packed_any (B : Nat) (v : Value) (bs : List Ser) (w : World) (hS : BatchAt w B v bs) (hB : B ≤ w.heap.size) (hT : Tabs w) (h1 : BatchOk bs) (h2 : LimitsOk bs) :
    Calls Tryz.prog 15 #[v] w fun e w' => e = .returned (.tuple #[.string (BA (frameOf (payload bs))), .bool true]) ∧ Below w.heap.size w w' := by
  have C := hide (encode_any B v bs w hS hB hT (small_of h2))
  obtain ⟨va, vc, rfl, _⟩ := id hS
  have hne : (frameOf (payload bs)).isEmpty = false := by simp [frameOf, headOf]
  have HN := hide hne
  clear hS hT hne
  go_enter Tryz.func15, Tryz.ntmps15
  go_wp2_with fail
  refine C.out.mono ?_
  rintro e w1 ⟨⟨n, hn, rfl⟩, hb⟩
  have h0 : n = 0 := by
    rcases hn with ⟨_, h⟩ | ⟨_, _, h⟩ | ⟨h, _⟩
    · exact absurd h1 h
    · exact absurd h2 h
    · exact h
  subst h0
  have HB := hide hb
  simp only [if_true]
  clear hn hb C
  go_wp2
  go_ret2
  refine ⟨?_, HB.out⟩
  show Ending.returned (Value.tuple #[.string (BA (frameOf (payload bs))), .bool (!(frameOf (payload bs)).isEmpty)]) = _
  rw [HN.out]; rfl

/-- The tables' cells, and a heap with the tables laid in it: for the witness. -/
def stepCells : Array Value := #[.int .i64 0, .int .u64 0, .int .i64 7, .int .u64 63, .int .i64 9, .int .u64 255, .int .i64 12, .int .u64 2047, .int .i64 64, .int .u64 0]
def debCells : Array Value := #[.int .u8 0, .int .u8 1, .int .u8 56, .int .u8 2, .int .u8 57, .int .u8 49, .int .u8 28, .int .u8 3, .int .u8 61, .int .u8 58, .int .u8 42, .int .u8 50, .int .u8 38, .int .u8 29, .int .u8 17, .int .u8 4, .int .u8 62, .int .u8 47, .int .u8 59, .int .u8 36, .int .u8 45, .int .u8 43, .int .u8 51, .int .u8 22, .int .u8 53, .int .u8 39, .int .u8 33, .int .u8 30, .int .u8 24, .int .u8 18, .int .u8 12, .int .u8 5, .int .u8 63, .int .u8 55, .int .u8 48, .int .u8 27, .int .u8 60, .int .u8 41, .int .u8 37, .int .u8 16, .int .u8 46, .int .u8 35, .int .u8 44, .int .u8 21, .int .u8 52, .int .u8 32, .int .u8 23, .int .u8 11, .int .u8 54, .int .u8 26, .int .u8 40, .int .u8 15, .int .u8 34, .int .u8 20, .int .u8 31, .int .u8 10, .int .u8 25, .int .u8 14, .int .u8 19, .int .u8 9, .int .u8 13, .int .u8 8, .int .u8 7, .int .u8 6]
def layTabs (h : Array Obj) : Array Obj := (h.modify 0 fun
    | .cells _ t frozen => .cells stepCells t frozen
    | o => o).modify 2 fun
    | .cells _ t frozen => .cells debCells t frozen
    | o => o
end Go.Proofs.YtamcclcbmenjdaaGreatDoor

/- A chunk, the texts in their order, a payload: what is packed is read again, and a batch has one frame: pure. -/
namespace Go.Proofs.YtamcclcbmenjdaaGreatDoor

theorem timeU_of (A C : List Bool) (u : US) (time : Nat) (hp : u.pos = A.length) (ht : u.t < 18446744073709551616) (hd : u.d < 18446744073709551616) (hm : time < 18446744073709551616) :
    timeU (packed (A ++ (timeBits u.t u.d time ++ C))) u = { u with pos := A.length + (timeBits u.t u.d time).length, t := time, d := sub64 time u.t } := by
  have h1 : sub64 time u.t < 18446744073709551616 := by unfold sub64; omega
  have h2 : sub64 (sub64 time u.t) u.d < 18446744073709551616 := by unfold sub64; omega
  have e1 := add_sub64 time u.t hm ht
  have e2 := add_sub64 (sub64 time u.t) u.d h1 hd
  unfold timeU timeBits
  generalize sub64 (sub64 time u.t) u.d = e at *
  generalize sub64 time u.t = d at *
  have hw := way_width e
  have hs := sub_add64 e (stepShift (stepWay e)) h2 (stepShift_lt _)
  have hle := stepWay_le e
  generalize add64 e (stepShift (stepWay e)) = x at *
  generalize stepWay e = k at *
  have hk := mk_packed k 4 u.st (Pl.bitsOf x (stepWidth k) ++ C) hle A
  have ht := tk_packed (A ++ markOf k 4) C x (stepWidth k) u.st
  rw [List.append_assoc] at ht
  rw [hp, List.append_assoc, hk]
  simp only
  rw [← List.length_append, ht]
  simp only
  rw [hw, hs, e2, e1]
  simp [Pl.bitsOf_length, Nat.add_assoc]
theorem lt_of_lz (x a : Nat) (hx : x < 2 ^ 64) (h : a ≤ lz x) : x < 2 ^ (64 - a) := by
  have h1 : x < 2 ^ Lib.bitLen x := bitLenAux_lt 64 x hx
  have h2 : Lib.bitLen x ≤ 64 := bitLenAux_le 64 x
  unfold lz at h
  exact Nat.lt_of_lt_of_le h1 (Nat.pow_le_pow_right (by decide) (by omega))
theorem dvd_of_tz (x k : Nat) (hx : x < 2 ^ 64) (h0 : x ≠ 0) (h : k ≤ tz x) : x % 2 ^ k = 0 := by
  obtain ⟨m, hm, _⟩ := Lib.ctzFrom_spec 64 x (by omega) hx
  have e : tz x = Lib.ctzFrom 64 x := by unfold tz Lib.ctz; rw [if_neg h0]
  rw [← e] at hm
  rw [hm, show tz x = k + (tz x - k) by omega, Nat.pow_add, Nat.mul_assoc]
  exact Nat.mul_mod_right _ _
theorem window_read (x a z : Nat) (hl : x < 2 ^ (64 - a)) (haz : a + z ≤ 64) (hd : x % 2 ^ (64 - a - z) = 0) : x / 2 ^ (64 - a - z) % 2 ^ z * 2 ^ (64 - a - z) = x := by
  have h1 : x / 2 ^ (64 - a - z) < 2 ^ z := by
    rw [Nat.div_lt_iff_lt_mul (Nat.two_pow_pos _), ← Nat.pow_add, show z + (64 - a - z) = 64 - a by omega]; exact hl
  rw [Nat.mod_eq_of_lt h1]
  exact Nat.div_mul_cancel (Nat.dvd_of_mod_eq_zero hd)
theorem xor_back (b y : Nat) : b ^^^ (y ^^^ b) = y := by
  rw [Nat.xor_comm y b, ← Nat.xor_assoc, Nat.xor_self, Nat.zero_xor]
theorem inU_of (A C : List Bool) (u : US) (y : Nat) (hp : u.pos = A.length) (haz : u.a + u.z ≤ 64) (hl : y ^^^ u.b < 2 ^ (64 - u.a)) (hd : (y ^^^ u.b) % 2 ^ (64 - u.a - u.z) = 0) :
    inU (packed (A ++ (Pl.bitsOf ((y ^^^ u.b) / 2 ^ (64 - u.a - u.z)) u.z ++ C))) u = { u with pos := A.length + u.z, b := y } := by
  unfold inU
  rw [hp, tk_packed]
  simp only
  rw [window_read _ _ _ hl haz hd, xor_back]
theorem winU_of (A C : List Bool) (u : US) (a z : Nat) (hp : u.pos = A.length) (ha : a ≤ 31) (hz : 1 ≤ z) (haz : a + z ≤ 64) :
    winU (packed (A ++ (winBits a z ++ C))) u = { u with pos := A.length + 11, a := a, z := z } := by
  unfold winU winBits
  have h1 := tk_packed A (Pl.bitsOf (z - 1) 6 ++ C) a 5 u.st
  have h2 := tk_packed (A ++ Pl.bitsOf a 5) C (z - 1) 6 u.st
  rw [List.append_assoc, List.length_append, Pl.bitsOf_length] at h2
  rw [hp, List.append_assoc, h1]
  simp only
  rw [h2]
  simp only
  have e1 : a % 2 ^ 5 = a := Nat.mod_eq_of_lt (by omega)
  have e2 : (z - 1) % 2 ^ 6 + 1 = z := by rw [Nat.mod_eq_of_lt (by omega)]; omega
  rw [e1, e2, if_pos haz]
theorem bitU_of (A C : List Bool) (u : US) (y : Nat) (hp : u.pos = A.length) (haz : u.a + u.z ≤ 64) (hy : y < 2 ^ 64) (hb : u.b < 2 ^ 64) :
    bitU (packed (A ++ (bitBits u.a u.z (y ^^^ u.b) ++ C))) u = { u with pos := A.length + (bitBits u.a u.z (y ^^^ u.b)).length, b := y, a := nextA u.a u.z (y ^^^ u.b), z := nextZ u.a u.z (y ^^^ u.b) } := by
  have hx : y ^^^ u.b < 2 ^ 64 := Nat.xor_lt_two_pow hy hb
  by_cases h0 : y ^^^ u.b = 0
  · have hyb : y = u.b := by
      have := xor_back u.b y
      rw [h0, Nat.xor_zero] at this; exact this.symm
    have hw : wayOf u.a u.z (y ^^^ u.b) = 0 := by unfold wayOf; rw [if_pos h0]
    have hm := mk_packed 0 2 u.st C (by omega) A
    unfold bitU bitBits nextA nextZ
    rw [hw, if_pos rfl, hp, hm]
    simp [hyb]
  · by_cases hh : holdsB u.a u.z (y ^^^ u.b) = true
    · have hw : wayOf u.a u.z (y ^^^ u.b) = 1 := by unfold wayOf; rw [if_neg h0, if_pos hh]
      unfold holdsB at hh
      simp only [Bool.and_eq_true, decide_eq_true_eq] at hh
      have hl := lt_of_lz _ u.a hx hh.2.1
      have hd := dvd_of_tz _ (64 - u.a - u.z) hx h0 (by omega)
      have hbb : bitBits u.a u.z (y ^^^ u.b) = markOf 1 2 ++ Pl.bitsOf ((y ^^^ u.b) / 2 ^ (64 - u.a - u.z)) u.z := by unfold bitBits; rw [hw]; simp
      have hna : nextA u.a u.z (y ^^^ u.b) = u.a := by unfold nextA; rw [hw]; simp
      have hnz : nextZ u.a u.z (y ^^^ u.b) = u.z := by unfold nextZ; rw [hw]; simp
      rw [hbb, hna, hnz]
      unfold bitU
      generalize hX : (y ^^^ u.b) / 2 ^ (64 - u.a - u.z) = X at *
      have hm := mk_packed 1 2 u.st (Pl.bitsOf X u.z ++ C) (by omega) A
      have hi := inU_of (A ++ markOf 1 2) C { u with pos := A.length + (markOf 1 2).length, st := u.st } y (by simp) haz hl hd
      simp only at hi
      rw [hX, List.append_assoc] at hi
      rw [hp, List.append_assoc, hm]
      simp only
      rw [if_neg (by decide), if_neg (by decide), hi]
      simp [Pl.bitsOf_length, Nat.add_assoc]
    · have hw : wayOf u.a u.z (y ^^^ u.b) = 2 := by unfold wayOf; rw [if_neg h0, if_neg hh]
      obtain ⟨n1, n2, n3, n4⟩ := new_bounds _ h0 hx
      have hl := lt_of_lz _ (newAhead (y ^^^ u.b)) hx (by unfold newAhead; omega)
      have hd := dvd_of_tz _ (64 - newAhead (y ^^^ u.b) - newSize (y ^^^ u.b)) hx h0 (by omega)
      have hbb : bitBits u.a u.z (y ^^^ u.b) = markOf 2 2 ++ winBits (newAhead (y ^^^ u.b)) (newSize (y ^^^ u.b)) ++ Pl.bitsOf ((y ^^^ u.b) / 2 ^ (64 - newAhead (y ^^^ u.b) - newSize (y ^^^ u.b))) (newSize (y ^^^ u.b)) := by unfold bitBits; rw [hw]; simp
      have hna : nextA u.a u.z (y ^^^ u.b) = newAhead (y ^^^ u.b) := by unfold nextA; rw [hw]; simp
      have hnz : nextZ u.a u.z (y ^^^ u.b) = newSize (y ^^^ u.b) := by unfold nextZ; rw [hw]; simp
      rw [hbb, hna, hnz]
      unfold bitU
      generalize hX : (y ^^^ u.b) / 2 ^ (64 - newAhead (y ^^^ u.b) - newSize (y ^^^ u.b)) = X at *
      generalize newAhead (y ^^^ u.b) = a at *
      generalize newSize (y ^^^ u.b) = z at *
      have hm := mk_packed 2 2 u.st (winBits a z ++ (Pl.bitsOf X z ++ C)) (by omega) A
      have hn := winU_of (A ++ markOf 2 2) (Pl.bitsOf X z ++ C) { u with pos := A.length + (markOf 2 2).length, st := u.st } a z (by simp) n1 n3 (by omega)
      have hi := inU_of (A ++ markOf 2 2 ++ winBits a z) C { u with pos := (A ++ markOf 2 2).length + 11, a := a, z := z } y (by simp [winBits, Pl.bitsOf_length]; omega) (by show a + z ≤ 64; omega) hl hd
      simp only at hi hn
      rw [hX] at hi
      simp only [List.append_assoc] at hi hn hm ⊢
      rw [hp, hm]
      simp only
      rw [if_neg (by decide), if_pos trivial, hn, hi]
      simp [Pl.bitsOf_length, winBits, Nat.add_assoc]; omega
theorem toI_u64 (t : Int) (h1 : -9223372036854775808 ≤ t) (h2 : t ≤ 9223372036854775807) : toI (u64 t) = t := by
  unfold toI u64; split <;> omega
theorem seqU_cons (s : ByteArray) (u : US) (n : Nat) : seqU s u (n + 1) = (samU u :: (seqU s (stepU s u) n).1, (seqU s (stepU s u) n).2) := by
  induction n with
  | zero => rfl
  | succ n ih => rw [seqU, ih]; simp [seqU]
theorem seqU_of (r : List (Int × Nat)) : ∀ (A : List Bool) (u : US), u.pos = A.length → u.t < 18446744073709551616 → u.d < 18446744073709551616 → u.b < 2 ^ 64 → u.a + u.z ≤ 64 →
    (∀ x ∈ r, -9223372036854775808 ≤ x.1 ∧ x.1 ≤ 9223372036854775807 ∧ x.2 ≤ 18446744073709551615) →
    (seqU (packed (A ++ goBits u.t u.d u.b u.a u.z r)) u r.length).1 = samU u :: r ∧ (seqU (packed (A ++ goBits u.t u.d u.b u.a u.z r)) u r.length).2.st = u.st := by
  induction r with
  | nil => intro A u _ _ _ _ _ _; exact ⟨rfl, rfl⟩
  | cons x r ih =>
    intro A u hp ht hd hb haz hwf
    have hx := hwf x (by simp)
    have htm : u64 x.1 < 18446744073709551616 := by have := u64_le x.1; omega
    have hx2 : x.2 < 2 ^ 64 := by omega
    rw [List.length_cons, seqU_cons, goBits]
    have h1 := timeU_of A (bitBits u.a u.z (x.2 ^^^ u.b) ++ goBits (u64 x.1) (sub64 (u64 x.1) u.t) x.2 (nextA u.a u.z (x.2 ^^^ u.b)) (nextZ u.a u.z (x.2 ^^^ u.b)) r) u (u64 x.1) hp ht hd htm
    have h2 := bitU_of (A ++ timeBits u.t u.d (u64 x.1)) (goBits (u64 x.1) (sub64 (u64 x.1) u.t) x.2 (nextA u.a u.z (x.2 ^^^ u.b)) (nextZ u.a u.z (x.2 ^^^ u.b)) r)
      { u with pos := A.length + (timeBits u.t u.d (u64 x.1)).length, t := u64 x.1, d := sub64 (u64 x.1) u.t } x.2 (by simp) haz hx2 hb
    have hn := next_bounds u.a u.z (x.2 ^^^ u.b) haz (Nat.xor_lt_two_pow hx2 hb)
    have hs1 : sub64 (u64 x.1) u.t < 18446744073709551616 := by unfold sub64; omega
    have h3 := ih (A ++ timeBits u.t u.d (u64 x.1) ++ bitBits u.a u.z (x.2 ^^^ u.b)) ⟨(A ++ timeBits u.t u.d (u64 x.1) ++ bitBits u.a u.z (x.2 ^^^ u.b)).length, u.st, u64 x.1, sub64 (u64 x.1) u.t, x.2, nextA u.a u.z (x.2 ^^^ u.b), nextZ u.a u.z (x.2 ^^^ u.b)⟩
      rfl htm hs1 hx2 hn (fun y hy => hwf y (by simp [hy]))
    simp only at h1 h2 h3
    generalize goBits (u64 x.1) (sub64 (u64 x.1) u.t) x.2 (nextA u.a u.z (x.2 ^^^ u.b)) (nextZ u.a u.z (x.2 ^^^ u.b)) r = G at *
    have hst : stepU (packed (A ++ (timeBits u.t u.d (u64 x.1) ++ bitBits u.a u.z (x.2 ^^^ u.b) ++ G))) u = ⟨(A ++ timeBits u.t u.d (u64 x.1) ++ bitBits u.a u.z (x.2 ^^^ u.b)).length, u.st, u64 x.1, sub64 (u64 x.1) u.t, x.2, nextA u.a u.z (x.2 ^^^ u.b), nextZ u.a u.z (x.2 ^^^ u.b)⟩ := by
      unfold stepU
      simp only [List.append_assoc] at h1 h2 ⊢
      rw [h1, h2]
      simp [Nat.add_assoc]
    simp only [List.append_assoc] at h3 hst ⊢
    rw [hst, h3.1, h3.2]
    have : samU ⟨(A ++ (timeBits u.t u.d (u64 x.1) ++ bitBits u.a u.z (x.2 ^^^ u.b))).length, u.st, u64 x.1, sub64 (u64 x.1) u.t, x.2, nextA u.a u.z (x.2 ^^^ u.b), nextZ u.a u.z (x.2 ^^^ u.b)⟩ = x := by
      unfold samU; rw [toI_u64 x.1 hx.1 hx.2.1]
    rw [this]
    exact ⟨rfl, rfl⟩
theorem chunk_of (x : Int × Nat) (r : List (Int × Nat)) (hwf : ∀ y ∈ x :: r, -9223372036854775808 ≤ y.1 ∧ y.1 ≤ 9223372036854775807 ∧ y.2 ≤ 18446744073709551615) :
    (seqU (packed (chunkBits (x :: r))) (firstU (packed (chunkBits (x :: r)))) r.length).1 = x :: r ∧ (seqU (packed (chunkBits (x :: r))) (firstU (packed (chunkBits (x :: r)))) r.length).2.st = 0 := by
  have hx := hwf x (by simp)
  have htm : u64 x.1 < 18446744073709551616 := by have := u64_le x.1; omega
  have hx2 : x.2 < 2 ^ 64 := by omega
  have hf : firstU (packed (chunkBits (x :: r))) = ⟨128, 0, u64 x.1, 0, x.2, 0, 0⟩ := by
    have h1 := tk_packed [] (Pl.bitsOf x.2 64 ++ goBits (u64 x.1) 0 x.2 0 0 r) (u64 x.1) 64 0
    have h2 := tk_packed (Pl.bitsOf (u64 x.1) 64) (goBits (u64 x.1) 0 x.2 0 0 r) x.2 64 0
    rw [List.nil_append, List.length_nil, Nat.zero_add, Nat.mod_eq_of_lt htm] at h1
    rw [Pl.bitsOf_length, Nat.mod_eq_of_lt hx2] at h2
    have hc : chunkBits (x :: r) = Pl.bitsOf (u64 x.1) 64 ++ (Pl.bitsOf x.2 64 ++ goBits (u64 x.1) 0 x.2 0 0 r) := by rw [chunkBits, List.append_assoc]
    unfold firstU
    rw [hc, h1]
    simp only
    rw [h2]
  rw [hf]
  have h := seqU_of r (Pl.bitsOf (u64 x.1) 64 ++ Pl.bitsOf x.2 64) ⟨128, 0, u64 x.1, 0, x.2, 0, 0⟩ (by simp [Pl.bitsOf_length]) htm (by show 0 < 18446744073709551616; omega) hx2 (by show 0 + 0 ≤ 64; omega) (fun y hy => hwf y (by simp [hy]))
  simp only at h
  rw [chunkBits, h.1, h.2]
  refine ⟨?_, rfl⟩
  unfold samU
  rw [toI_u64 x.1 hx.1 hx.2.1]
end Go.Proofs.YtamcclcbmenjdaaGreatDoor
namespace Go.Proofs.YtamcclcbmenjdaaGreatDoor
open Go.Lib Go.Sort

theorem get_list (zs : List (List UInt8)) (j : Nat) (hj : j < zs.length) : zs.toArray[j]! = zs[j] := by simp [hj]
theorem compact_sorted (zs : List (List UInt8)) (hs : zs.Pairwise (· ≤ ·)) : (Lib.compact zs).Pairwise (· < ·) ∧ ∀ x ∈ zs, x ∈ Lib.compact zs := by
  have hle : ∀ i j, i ≤ j → j < zs.length → zs.toArray[i]! ≤ zs.toArray[j]! := fun i j hij hj => by
    rw [get_list zs i (by omega), get_list zs j hj]
    by_cases e : i = j
    · subst e; exact List.not_lt.1 (List.lt_irrefl _)
    · exact List.pairwise_iff_getElem.1 hs i j (by omega) hj (by omega)
  have key : ∀ m, m ≤ zs.length → (Lib.compactUpTo zs.toArray m).Pairwise (· < ·) ∧ (∀ j, j < m → zs.toArray[j]! ∈ Lib.compactUpTo zs.toArray m) ∧ ∀ x ∈ Lib.compactUpTo zs.toArray m, ∃ j, j < m ∧ x = zs.toArray[j]! := by
    intro m
    induction m with
    | zero => intro _; exact ⟨by simp [Lib.compactUpTo], fun j hj => by omega, fun x hx => by simp [Lib.compactUpTo] at hx⟩
    | succ m ih =>
      intro hm
      obtain ⟨h1, h2, h3⟩ := ih (by omega)
      rw [Lib.compactUpTo_succ]
      by_cases hk : Lib.keeps zs.toArray m = true
      · rw [if_pos hk]
        refine ⟨?_, fun j hj => ?_, fun x hx => ?_⟩
        · rw [List.pairwise_append]
          refine ⟨h1, List.pairwise_singleton _ _, fun x hx y hy => ?_⟩
          rw [List.mem_singleton.1 hy]
          obtain ⟨j, hj, rfl⟩ := h3 x hx
          have hne : zs.toArray[m]! ≠ zs.toArray[m - 1]! := by
            simp [Lib.keeps] at hk
            rcases hk with h | h
            · omega
            · simpa using h
          exact List.lt_of_le_of_lt (hle j (m - 1) (by omega) (by omega)) (lt_of_le_ne (hle (m - 1) m (by omega) (by omega)) (Ne.symm hne))
        · by_cases e : j = m
          · subst e; simp
          · exact List.mem_append_left _ (h2 j (by omega))
        · rcases List.mem_append.1 hx with hx | hx
          · obtain ⟨j, hj, e⟩ := h3 x hx; exact ⟨j, by omega, e⟩
          · exact ⟨m, by omega, List.mem_singleton.1 hx⟩
      · rw [if_neg hk, List.append_nil]
        have hm0 : 0 < m := by
          rcases Nat.eq_zero_or_pos m with h | h
          · subst h; exact absurd (Lib.keeps_lt_one _ 0 (by omega)) hk
          · exact h
        have heq : zs.toArray[m]! = zs.toArray[m - 1]! := by
          by_cases h : zs.toArray[m]! = zs.toArray[m - 1]!
          · exact h
          · exact absurd (Lib.keeps_pos h) hk
        refine ⟨h1, fun j hj => ?_, fun x hx => by obtain ⟨j, hj, e⟩ := h3 x hx; exact ⟨j, by omega, e⟩⟩
        by_cases e : j = m
        · subst e; rw [heq]; exact h2 _ (by omega)
        · exact h2 j (by omega)
  obtain ⟨h1, h2, _⟩ := key zs.length (Nat.le_refl _)
  refine ⟨h1, fun x hx => ?_⟩
  obtain ⟨j, hj, rfl⟩ := List.mem_iff_getElem.1 hx
  rw [← get_list zs j hj]
  exact h2 j hj
theorem texts_sorted (l : List ByteArray) : (sortedTexts l).Pairwise (fun a b => a.data.toList < b.data.toList) ∧ ∀ x ∈ l, x ∈ sortedTexts l := by
  have hs : ((l.map fun s => s.data.toList).mergeSort fun x y => decide (x ≤ y)).Pairwise (· ≤ ·) := by
    have := List.pairwise_mergeSort (le := fun x y : List UInt8 => decide (x ≤ y)) (fun a b c h1 h2 => by simp at *; exact List.le_trans h1 h2) (fun a b => by simp; exact List.le_total a b) (l.map fun s => s.data.toList)
    exact this.imp fun h => of_decide_eq_true h
  obtain ⟨h1, h2⟩ := compact_sorted _ hs
  unfold sortedTexts
  refine ⟨?_, fun x hx => ?_⟩
  · rw [List.pairwise_map]
    exact h1.imp fun h => by simpa using h
  · refine List.mem_map.2 ⟨x.data.toList, h2 _ (List.mem_mergeSort.2 (List.mem_map.2 ⟨x, hx, rfl⟩)), ?_⟩
    simp
theorem bsGo_in (less : Nat → Bool) (k n : Nat) (h1 : ∀ t, t < k → less t = true) (h2 : ∀ t, k ≤ t → t < n → less t = false) : ∀ (f lo hi : Nat), hi - lo ≤ f → lo ≤ k → k ≤ hi → hi ≤ n → Lib.bsGo less f lo hi = k
  | 0, lo, hi, hf, a, b, _ => by simp [Lib.bsGo]; omega
  | f + 1, lo, hi, hf, a, b, c => by
    unfold Lib.bsGo
    by_cases h : lo < hi
    · rw [if_pos h]
      by_cases hm : (lo + hi) / 2 < k
      · rw [h1 _ hm, if_pos rfl]; exact bsGo_in less k n h1 h2 f _ _ (by omega) (by omega) b c
      · rw [h2 _ (by omega) (by omega)]; exact bsGo_in less k n h1 h2 f _ _ (by omega) a (by omega) (by omega)
    · rw [if_neg h]; omega
theorem place_of (texts : List ByteArray) (hp : texts.Pairwise (fun a b => a.data.toList < b.data.toList)) (x : ByteArray) (hx : x ∈ texts) : texts[placeOf texts x]? = some x := by
  obtain ⟨k, hk, e⟩ := List.mem_iff_getElem.1 hx
  have hg : ∀ t (ht : t < texts.length), (texts.getD t ByteArray.empty).toList = texts[t].data.toList := fun t ht => by
    rw [ByteArray.toList_eq, List.getD_eq_getElem?_getD, List.getElem?_eq_getElem ht]; rfl
  have hk2 : placeOf texts x = k := by
    unfold placeOf
    refine bsGo_in _ k texts.length (fun t ht => ?_) (fun t ht htl => ?_) _ _ _ (by omega) (Nat.zero_le _) (by omega) (Nat.le_refl _)
    · rw [less_eq, hg t (by omega), ByteArray.toList_eq, ← e]
      exact decide_eq_true (List.pairwise_iff_getElem.1 hp t k (by omega) hk ht)
    · rw [less_eq, hg t htl, ByteArray.toList_eq, ← e]
      refine decide_eq_false ?_
      by_cases h : t = k
      · subst h; exact List.lt_irrefl _
      · exact List.lt_asymm (List.pairwise_iff_getElem.1 hp k t hk htl (by omega))
  rw [hk2, List.getElem?_eq_getElem hk, e]
end Go.Proofs.YtamcclcbmenjdaaGreatDoor
namespace Go.Proofs.YtamcclcbmenjdaaGreatDoor

theorem seqTo_cons {α : Type} (f : Rest → α × Rest) (s : Rest) (n : Nat) : seqTo f s (n + 1) = ((f s).1 :: (seqTo f (f s).2 n).1, (seqTo f (f s).2 n).2) := by
  induction n with
  | zero => rfl
  | succ n ih => rw [seqTo, ih]; simp [seqTo]
theorem seqTo_of {α : Type} (f : Rest → α × Rest) (enc : α → List UInt8) (C : List UInt8) : ∀ xs : List α, (∀ x ∈ xs, ∀ D, f (BA (enc x ++ D), 0) = (x, (BA D, 0))) → seqTo f (BA (xs.flatMap enc ++ C), 0) xs.length = (xs, (BA C, 0)) := by
  intro xs
  induction xs with
  | nil => intro _; rfl
  | cons x r ih =>
    intro h
    rw [List.length_cons, seqTo_cons, List.flatMap_cons, List.append_assoc, h x (by simp) _]
    simp only
    rw [ih fun y hy => h y (by simp [hy])]
theorem tofR_of (texts : List ByteArray) (x : ByteArray) (D : List UInt8) (hg : texts[placeOf texts x]? = some x) (hl : texts.length ≤ 1000) : tofR texts (BA (Pl.varint (placeOf texts x) ++ D), 0) = (x, (BA D, 0)) := by
  have hlt := (List.getElem?_eq_some_iff.1 hg).1
  unfold tofR
  simp only
  rw [numR_of (placeOf texts x) D ((texts.length : Int) - 1) 0 (by omega) (by omega)]
  simp only
  rw [if_neg (by decide), List.getD_eq_getElem?_getD, hg]
  rfl
theorem labR_of (texts : List ByteArray) (x : Lab) (D : List UInt8) (h1 : texts[placeOf texts x.1]? = some x.1) (h2 : texts[placeOf texts x.2]? = some x.2) (hl : texts.length ≤ 1000) :
    labR texts (BA ((Pl.varint (placeOf texts x.1) ++ Pl.varint (placeOf texts x.2)) ++ D), 0) = (x, (BA D, 0)) := by
  unfold labR
  rw [List.append_assoc, tofR_of texts x.1 _ h1 hl]
  simp only
  rw [tofR_of texts x.2 _ h2 hl]
theorem labsR_of (texts : List ByteArray) (l : List Lab) (D : List UInt8) (h : ∀ x ∈ l, texts[placeOf texts x.1]? = some x.1 ∧ texts[placeOf texts x.2]? = some x.2) (hl : texts.length ≤ 1000) (h4 : l.length ≤ 4) :
    labsR texts (BA (Pl.varint l.length ++ (labelsBytes texts l ++ D)), 0) = (l, (BA D, 0)) := by
  unfold labsR
  simp only
  rw [numR_of l.length _ 4 0 (by omega) (by omega)]
  exact seqTo_of (labR texts) (fun x => Pl.varint (placeOf texts x.1) ++ Pl.varint (placeOf texts x.2)) D l fun x hx E => labR_of texts x E (h x hx).1 (h x hx).2 hl
theorem samplesR_of (x : Int × Nat) (r : List (Int × Nat)) (D : List UInt8) (hn : (x :: r).length ≤ 40) (hwf : ∀ y ∈ x :: r, -9223372036854775808 ≤ y.1 ∧ y.1 ≤ 9223372036854775807 ∧ y.2 ≤ 18446744073709551615) :
    samplesR (BA (Pl.varint (x :: r).length ++ (Pl.varint (chunkBytes (x :: r)).length ++ (chunkBytes (x :: r) ++ D))), 0) = (x :: r, (BA D, 0)) := by
  have hc := chunk_of x r hwf
  have hlen := chunkBytes_len (x :: r) (by omega)
  have hlen' : (chunkBytes (x :: r)).length ≤ 6000 := hlen
  unfold samplesR
  simp only
  rw [numR_of (x :: r).length _ 40 0 (by omega) (by omega)]
  simp only
  rw [textR_of (chunkBytes (x :: r)) D _ 0 (by omega) (by rw [BA_size, List.length_append, List.length_append]; omega)]
  simp only
  have hch : chunkR (BA (chunkBytes (x :: r))) (x :: r).length = seqU (packed (chunkBits (x :: r))) (firstU (packed (chunkBits (x :: r)))) r.length := rfl
  rw [if_neg (by simp), hch, hc.1, hc.2, if_neg (by decide)]
theorem serR_of (texts : List ByteArray) (s : Ser) (D : List UInt8) (h : ∀ x ∈ s.1, texts[placeOf texts x.1]? = some x.1 ∧ texts[placeOf texts x.2]? = some x.2) (hl : texts.length ≤ 1000) (h4 : s.1.length ≤ 4) (h0 : s.2 ≠ []) (h40 : s.2.length ≤ 40)
    (hwf : ∀ y ∈ s.2, -9223372036854775808 ≤ y.1 ∧ y.1 ≤ 9223372036854775807 ∧ y.2 ≤ 18446744073709551615) : serR texts (BA (seriesBytes texts s.1 s.2 ++ D), 0) = (s, (BA D, 0)) := by
  obtain ⟨l, m⟩ := s
  cases m with
  | nil => exact absurd rfl h0
  | cons x r =>
    unfold serR seriesBytes
    simp only [List.append_assoc]
    rw [labsR_of texts l _ h hl h4]
    simp only
    rw [samplesR_of x r D h40 hwf]
theorem textsR_of (texts : List ByteArray) (D : List UInt8) (hl : texts.length ≤ 64) (h16 : ∀ x ∈ texts, x.size ≤ 16) : textsR (BA (Pl.varint texts.length ++ (textsBytes texts ++ D)), 0) = (texts, (BA D, 0)) := by
  unfold textsR
  simp only
  rw [numR_of texts.length _ 64 0 (by omega) (by omega)]
  refine seqTo_of (fun s : Rest => textR s.1 16 s.2) (fun x => Pl.varint x.size ++ x.data.toList) D texts fun x hx E => ?_
  have hs : x.data.toList.length = x.size := by simp
  have h1 := h16 x hx
  have h2 := textR_of x.data.toList E 16 0 (by omega) (by omega)
  rw [hs, BA_of] at h2
  simp only [List.append_assoc]
  exact h2
/-- What is packed is read. -/
theorem payR_of (bs : List Ser) (h1 : BatchOk bs) (h2 : LimitsOk bs) (hr : InRange bs) : payR (BA (payload bs)) = (bs, (BA [], 0)) := by
  have hF := fits_of h1 h2
  have hsm := allTexts_small bs hF
  have hts := texts_sorted (allTexts bs)
  have hlen := sortedTexts_len (allTexts bs)
  have hin : ∀ s ∈ bs, ∀ x ∈ s.1, (sortedTexts (allTexts bs))[placeOf (sortedTexts (allTexts bs)) x.1]? = some x.1 ∧ (sortedTexts (allTexts bs))[placeOf (sortedTexts (allTexts bs)) x.2]? = some x.2 := fun s hs x hx => by
    have m : ∀ y, y = x.1 ∨ y = x.2 → y ∈ allTexts bs := fun y hy => by
      refine List.mem_flatMap.2 ⟨s, hs, List.mem_flatMap.2 ⟨x, hx, ?_⟩⟩
      rcases hy with rfl | rfl <;> simp
    exact ⟨place_of _ hts.1 _ (hts.2 _ (m _ (.inl rfl))), place_of _ hts.1 _ (hts.2 _ (m _ (.inr rfl)))⟩
  have h16 : ∀ x ∈ sortedTexts (allTexts bs), x.size ≤ 16 := fun x hx => hsm.2 x (sortedTexts_mem hx)
  have hl64 : (sortedTexts (allTexts bs)).length ≤ 64 := by omega
  unfold payR payload
  generalize sortedTexts (allTexts bs) = texts at *
  simp only [List.append_assoc]
  rw [textsR_of texts _ hl64 h16]
  simp only
  rw [numR_of bs.length _ 8 0 (by have := hF.series; omega) (by have := hF.series; omega)]
  simp only
  have := seqTo_of (serR texts) (fun s => seriesBytes texts s.1 s.2) [] bs fun s hs E => serR_of texts s E (hin s hs) (by omega) (hF.labels s hs) (hF.samples s hs).1 (hF.samples s hs).2 (hr s hs)
  rw [List.append_nil] at this
  exact this
theorem frame_is (bs : List Ser) (h1 : BatchOk bs) (h2 : LimitsOk bs) (hr : InRange bs) : IsFrame (frameOf (payload bs)) ∧ got (frameOf (payload bs)) = bs := by
  have hp := payload_bounds (fits_of h1 h2)
  obtain ⟨ho, hi⟩ := opens_of (payload bs) (by omega)
  have hq := payR_of bs h1 h2 hr
  have hg : got (frameOf (payload bs)) = bs := by unfold got; rw [hi, hq]
  refine ⟨⟨ho, by rw [hi, hq], by rw [hg]; exact h1, by rw [hg]; exact h2, by rw [hg, hi]⟩, hg⟩
end Go.Proofs.YtamcclcbmenjdaaGreatDoor

/- choirkeep's Lattice. -/
namespace Go.Proofs.YtamcclcbmenjdaaGreatDoor
open Go.RowKit Go.Lib

theorem RawsAt.below {w w' : World} {B B' : Nat} {v : Value} {l : List (Int × Int × Nat)} (h : RawsAt w B v l) (hb : Below B' w w') (hB : B ≤ B') : RawsAt w' B v l := by
  obtain ⟨a, cap, hv, hr, h2⟩ := h
  refine ⟨a, cap, hv, hr, ?_⟩
  rcases h2 with h2 | ⟨b, o, ha, hbB, hcell⟩
  · exact .inl h2
  · refine .inr ⟨b, o, ha, hbB, fun i x hx => ?_⟩
    obtain ⟨h1, h2, h3⟩ := hcell i x hx
    exact ⟨(hb.cell (p := ⟨b, o + i * 3, none⟩) (by show b < B'; omega)).trans h1, (hb.cell (p := ⟨b, o + i * 3 + 1, none⟩) (by show b < B'; omega)).trans h2, (hb.cell (p := ⟨b, o + i * 3 + 2, none⟩) (by show b < B'; omega)).trans h3⟩
theorem BatchAt.on {w w' : World} {v : Value} {bs : List Ser} (h : BatchAt w w.heap.size v bs) (hb : Below w.heap.size w w') : BatchAt w' w'.heap.size v bs := (h.below hb (Nat.le_refl _)).wider hb.size
/-- joined, of batches of the four kinds. -/
theorem kj_any (W : World) (va vb : Value) (a b : List Ser) (n m : Nat) (ha : BatchAt W W.heap.size va a) (hb : BatchAt W W.heap.size vb b) (oa : BatchOk a) (ob : BatchOk b) (ka : KB a n) (kb : KB b m) (h : n + m ≤ 40) :
    Calls Tryz.prog 14 #[va, vb] W fun e w' => ∃ jv j, IsJoin [a, b] j ∧ e = .returned (.tuple #[jv, .bool true]) ∧ BatchAt w' w'.heap.size jv j ∧ KB j (n + m) ∧ Below W.heap.size W w' := by
  have la := ka.limits (by omega) oa
  have lb := kb.limits (by omega) ob
  refine (kjoined_any W va vb a b ha hb (small_of la) (small_of lb) oa ob la lb fun j hj => (hj.kb ka kb oa ob).limits h hj.ok).mono ?_
  rintro e w' ⟨jv, j, h1, h2, h3, _, h5⟩
  exact ⟨jv, j, h1, h2, h3, h1.kb ka kb oa ob, h5⟩
theorem mergeOf_is {fs : List ByteArray} {e : Ending} {l : List Ser} (h : MergeOf fs e) (hf : ∀ s ∈ fs, IsFrame s.data.toList) (hj : IsJoin (gots fs) l) (hl : LimitsOk l) : e = .returned (.tuple #[.string (BA (frameOf (payload l))), .int .i64 0]) := by
  rcases h with ⟨_, j, n, h1, h2, h3⟩ | ⟨h, _⟩
  · obtain rfl := h1.unique hj
    rcases h2 with ⟨_, h⟩ | ⟨_, _, h⟩ | ⟨rfl, _⟩
    · exact absurd hj.ok h
    · exact absurd hl h
    · exact h3
  · exact absurd hf h
/-- A batch's frame. -/
def fr (bs : List Ser) : ByteArray := BA (frameOf (payload bs))
theorem fr_is {bs : List Ser} (h1 : BatchOk bs) (h2 : LimitsOk bs) (hr : InRange bs) : IsFrame (fr bs).data.toList ∧ got (fr bs).data.toList = bs ∧ (fr bs).size ≤ 140737488355328 := by
  have h := frame_is bs h1 h2 hr
  have hp := payload_bounds (fits_of h1 h2)
  refine ⟨by unfold fr; rw [BA_list]; exact h.1, by unfold fr; rw [BA_list]; exact h.2, ?_⟩
  unfold fr
  rw [BA_size, frameOf_length]; omega
theorem gots_fr {bss : List (List Ser)} (h : ∀ bs ∈ bss, BatchOk bs ∧ LimitsOk bs ∧ InRange bs) : gots (bss.map fr) = bss := by
  unfold gots
  rw [List.map_map]
  conv => rhs; rw [← List.map_id bss]
  exact List.map_congr_left fun bs hbs => (fr_is (h bs hbs).1 (h bs hbs).2.1 (h bs hbs).2.2).2.1
theorem packed_fr (w : World) (v : Value) (bs : List Ser) (hS : BatchAt w w.heap.size v bs) (hT : Tabs w) (h1 : BatchOk bs) (h2 : LimitsOk bs) :
    Calls Tryz.prog 15 #[v] w fun e w' => e = .returned (.tuple #[.string (fr bs), .bool true]) ∧ Below w.heap.size w w' := packed_any w.heap.size v bs w hS (Nat.le_refl _) hT h1 h2
theorem frames_new (w : World) (fs : List ByteArray) : FramesAt (w.alloc (.cells (Strs fs).toArray 9)) (.slice (some ⟨w.heap.size, 0, none⟩) fs.length fs.length) fs :=
  ⟨_, _, rfl, fun i s hs => ⟨w.heap.size, 0, rfl, by simp, by rw [Nat.zero_add, World.cell?_alloc_new]; simp [Strs, hs]⟩⟩
theorem merged_frames (W w : World) (bss : List (List Ser)) (l : List Ser) (hb : Below W.heap.size W w) (hT : Tabs W) (h : ∀ bs ∈ bss, BatchOk bs ∧ LimitsOk bs ∧ InRange bs) (hn : bss.length ≤ 100) (hj : IsJoin bss l) (hl : LimitsOk l) :
    Calls Tryz.prog 11 #[.slice (some ⟨w.heap.size, 0, none⟩) bss.length bss.length] (w.alloc (.cells (Strs (bss.map fr)).toArray 9)) fun e w' => e = .returned (.tuple #[.string (fr l), .int .i64 0]) ∧ Below w.heap.size w w' := by
  have hv := frames_new w (bss.map fr)
  rw [List.length_map] at hv
  have hb2 : Below W.heap.size W (w.alloc (.cells (Strs (bss.map fr)).toArray 9)) := hb.alloc hb.size _
  have hf : ∀ s ∈ bss.map fr, IsFrame s.data.toList ∧ s.size ≤ 140737488355328 := fun s hs => by
    obtain ⟨bs, hbs, rfl⟩ := List.mem_map.1 hs
    have := fr_is (h bs hbs).1 (h bs hbs).2.1 (h bs hbs).2.2
    exact ⟨this.1, this.2.2⟩
  refine (merge_any _ _ (bss.map fr) hv (fun s hs => (hf s hs).2) (by rw [List.length_map]; omega) (hT.below hb2 hT.lt)).mono fun e w' ⟨h1, h2⟩ => ⟨?_, ((Below.refl w.heap.size w).alloc (Nat.le_refl _) _).trans (h2.mono (by simp))⟩
  exact mergeOf_is h1 (fun s hs => (hf s hs).1) (by rw [gots_fr h]; exact hj) hl

set_option maxRecDepth 100000 in
set_option maxHeartbeats 2000000 in
theorem lattice_any (W : World) (v1 v2 v3 : Value) (r1 r2 r3 : List (Int × Int × Nat)) (h1 : RawsAt W W.heap.size v1 r1) (h2 : RawsAt W W.heap.size v2 r2) (h3 : RawsAt W W.heap.size v3 r3) (hl1 : r1.length ≤ 100000000000000) (hl2 : r2.length ≤ 100000000000000) (hl3 : r3.length ≤ 100000000000000) (hT : Tabs W) :
    Calls Tryz.prog 5 #[v1, v2, v3] W fun e w' => e = .returned (.bool true) ∧ Below W.heap.size W w' := by
  have C1 := hide (kbatch_more W.heap.size v1 r1 W h1 (Nat.le_refl _) hl1)
  have HR2 := hide h2
  have HR3 := hide h3
  have HT := hide hT
  have htl := hT.lt
  obtain ⟨ra, rc, rfl, -⟩ := id h1
  obtain ⟨qa, qc, rfl, -⟩ := id h2
  obtain ⟨pa, pc, rfl, -⟩ := id h3
  clear h1 h2 h3 hT
  go_enter Tryz.func5, Tryz.ntmps5
  go_wp2_with fail
  refine C1.out.mono ?_
  rintro e w1 ⟨va, a, rfl, hA, oa, la, na, ka, hb1⟩
  have C := hide (kbatch_more W.heap.size (.slice qa r2.length qc) r2 w1 (HR2.out.below hb1 (Nat.le_refl _)) hb1.size hl2)
  have HB1 := hide hb1
  have HA1 := hide hA
  obtain ⟨aa, ac, rfl, -⟩ := id hA
  clear hb1 C1 HR2 hA
  go_wp2_with fail
  refine C.out.mono ?_
  rintro e w2 ⟨vb, b, rfl, hB, ob, lb, nb, kb, hb2⟩
  have HB2 := hide (HB1.out.trans (hb2.mono HB1.out.size))
  have HA2 := hide (HA1.out.on hb2)
  have HBt2 := hide hB
  obtain ⟨ba, bc, rfl, -⟩ := id hB
  clear C hb2 HB1 HA1 hB
  have C := hide (kbatch_more W.heap.size (.slice pa r3.length pc) r3 w2 (HR3.out.below HB2.out (Nat.le_refl _)) HB2.out.size hl3)
  clear HR3
  go_wp2_with fail
  refine C.out.mono ?_
  rintro e w3 ⟨vc, c, rfl, hC, oc, lc, nc, kc, hb3⟩
  have HB3 := hide (HB2.out.trans (hb3.mono HB2.out.size))
  have HA3 := hide (HA2.out.on hb3)
  have HBt3 := hide (HBt2.out.on hb3)
  have HC3 := hide hC
  have HO : Hid ((BatchOk a ∧ BatchOk b ∧ BatchOk c) ∧ (LimitsOk a ∧ LimitsOk b ∧ LimitsOk c) ∧ (InRange a ∧ InRange b ∧ InRange c) ∧ KB a 10 ∧ KB b 10 ∧ KB c 10) := ⟨⟨oa, ob, oc⟩, ⟨la, lb, lc⟩, ⟨na, nb, nc⟩, ka, kb, kc⟩
  obtain ⟨ca, cc, rfl, -⟩ := id hC
  clear C hb3 HB2 HA2 HBt2 hC oa ob oc la lb lc na nb nc ka kb kc
  have C := hide (kj_any w3 _ _ a b 10 10 HA3.out HBt3.out HO.out.1.1 HO.out.1.2.1 HO.out.2.2.2.1 HO.out.2.2.2.2.1 (by decide))
  go_wp2_with fail
  refine C.out.mono ?_
  rintro e w4 ⟨ab', ab, jab, rfl, hAb, kab, hb4⟩
  have HB4 := hide (HB3.out.trans (hb4.mono HB3.out.size))
  have HA4 := hide (HA3.out.on hb4)
  have HBt4 := hide (HBt3.out.on hb4)
  have HC4 := hide (HC3.out.on hb4)
  have HAb4 := hide hAb
  have HJab : Hid (IsJoin [a, b] ab ∧ KB ab 20) := ⟨jab, kab⟩
  obtain ⟨aba, abc, rfl, -⟩ := id hAb
  clear C hb4 HB3 HA3 HBt3 HC3 hAb jab kab
  have C := hide (kj_any w4 _ _ b a 10 10 HBt4.out HA4.out HO.out.1.2.1 HO.out.1.1 HO.out.2.2.2.2.1 HO.out.2.2.2.1 (by decide))
  go_wp2_with fail
  refine C.out.mono ?_
  rintro e w5 ⟨ba', bav, jba, rfl, hBa, kba, hb5⟩
  obtain rfl : bav = ab := IsJoin.unique (jba.perm (fun x => by simp [or_comm])) HJab.out.1
  have HB5 := hide (HB4.out.trans (hb5.mono HB4.out.size))
  have HA5 := hide (HA4.out.on hb5)
  have HBt5 := hide (HBt4.out.on hb5)
  have HC5 := hide (HC4.out.on hb5)
  have HAb5 := hide (HAb4.out.on hb5)
  have HBa5 := hide hBa
  obtain ⟨baa, bac, rfl, -⟩ := id hBa
  clear C hb5 HB4 HA4 HBt4 HC4 HAb4 hBa jba kba
  have C := hide (kj_any w5 _ _ b c 10 10 HBt5.out HC5.out HO.out.1.2.1 HO.out.1.2.2 HO.out.2.2.2.2.1 HO.out.2.2.2.2.2 (by decide))
  go_wp2_with fail
  refine C.out.mono ?_
  rintro e w6 ⟨bc', bcv, jbc, rfl, hBc, kbc, hb6⟩
  have HB6 := hide (HB5.out.trans (hb6.mono HB5.out.size))
  have HA6 := hide (HA5.out.on hb6)
  have HBt6 := hide (HBt5.out.on hb6)
  have HC6 := hide (HC5.out.on hb6)
  have HAb6 := hide (HAb5.out.on hb6)
  have HBa6 := hide (HBa5.out.on hb6)
  have HBc6 := hide hBc
  have HJbc : Hid (IsJoin [b, c] bcv ∧ KB bcv 20) := ⟨jbc, kbc⟩
  obtain ⟨bca, bcc, rfl, -⟩ := id hBc
  clear C hb6 HB5 HA5 HBt5 HC5 HAb5 HBa5 hBc jbc kbc
  have C := hide (kj_any w6 _ _ bav c 20 10 HAb6.out HC6.out HJab.out.1.ok HO.out.1.2.2 HJab.out.2 HO.out.2.2.2.2.2 (by decide))
  go_wp2_with fail
  refine C.out.mono ?_
  rintro e w7 ⟨l', l, jl, rfl, hL, kl, hb7⟩
  have habc : IsJoin [a, b, c] l := HJab.out.1.group jl (two_all.2 ⟨HO.out.1.1, HO.out.1.2.1⟩)
  have HB7 := hide (HB6.out.trans (hb7.mono HB6.out.size))
  have HA7 := hide (HA6.out.on hb7)
  have HBt7 := hide (HBt6.out.on hb7)
  have HC7 := hide (HC6.out.on hb7)
  have HAb7 := hide (HAb6.out.on hb7)
  have HBa7 := hide (HBa6.out.on hb7)
  have HBc7 := hide (HBc6.out.on hb7)
  have HL7 := hide hL
  have HJl : Hid (IsJoin [a, b, c] l ∧ KB l 30) := ⟨habc, kl⟩
  obtain ⟨la', lc', rfl, -⟩ := id hL
  clear C hb7 HB6 HA6 HBt6 HC6 HAb6 HBa6 HBc6 hL jl kl habc
  have C := hide (kj_any w7 _ _ a bcv 10 20 HA7.out HBc7.out HO.out.1.1 HJbc.out.1.ok HO.out.2.2.2.1 HJbc.out.2 (by decide))
  go_wp2_with fail
  refine C.out.mono ?_
  rintro e w8 ⟨m', m, jm, rfl, hM, km, hb8⟩
  obtain rfl : m = l := by
    have h1 : IsJoin (bcv :: [a]) m := jm.perm fun x => by simp [or_comm]
    have h2 : IsJoin ([b, c] ++ [a]) m := HJbc.out.1.group h1 (two_all.2 ⟨HO.out.1.2.1, HO.out.1.2.2⟩)
    exact (h2.perm (css := [a, b, c]) fun x => by simp only [List.mem_append, List.mem_cons, List.not_mem_nil, or_false]; constructor <;> (first | (rintro ((h | h) | h) <;> simp [h]) | (rintro (h | h | h) <;> simp [h]))).unique HJl.out.1
  have HB8 := hide (HB7.out.trans (hb8.mono HB7.out.size))
  have HA8 := hide (HA7.out.on hb8)
  have HBt8 := hide (HBt7.out.on hb8)
  have HC8 := hide (HC7.out.on hb8)
  have HAb8 := hide (HAb7.out.on hb8)
  have HBa8 := hide (HBa7.out.on hb8)
  have HL8 := hide (HL7.out.on hb8)
  have HM8 := hide hM
  obtain ⟨ma', mc', rfl, -⟩ := id hM
  clear C hb8 HB7 HA7 HBt7 HC7 HAb7 HBa7 HBc7 HL7 hM jm km HJbc
  have C := hide (kj_any w8 _ _ m a 30 10 HL8.out HA8.out HJl.out.1.ok HO.out.1.1 HJl.out.2 HO.out.2.2.2.1 (by decide))
  go_wp2_with fail
  refine C.out.mono ?_
  rintro e w9 ⟨n', n, jn, rfl, hN, kn, hb9⟩
  obtain rfl : n = m := by
    have h2 : IsJoin ([a, b, c] ++ [a]) n := HJl.out.1.group jn (fun bs hbs => by
      rcases List.mem_cons.1 hbs with rfl | h
      · exact HO.out.1.1
      · rcases List.mem_cons.1 h with rfl | h
        · exact HO.out.1.2.1
        · rw [List.mem_singleton.1 h]; exact HO.out.1.2.2)
    exact (h2.perm (css := [a, b, c]) fun x => by simp only [List.mem_append, List.mem_cons, List.not_mem_nil, or_false]; constructor <;> (first | (rintro ((h | h | h) | h) <;> simp [h]) | (rintro (h | h | h) <;> simp [h]))).unique HJl.out.1
  have HB9 := hide (HB8.out.trans (hb9.mono HB8.out.size))
  have HA9 := hide (HA8.out.on hb9)
  have HBt9 := hide (HBt8.out.on hb9)
  have HC9 := hide (HC8.out.on hb9)
  have HAb9 := hide (HAb8.out.on hb9)
  have HBa9 := hide (HBa8.out.on hb9)
  have HL9 := hide (HL8.out.on hb9)
  have HM9 := hide (HM8.out.on hb9)
  have HN9 := hide hN
  obtain ⟨na', nc', rfl, -⟩ := id hN
  have HLl : Hid (LimitsOk n) := HJl.out.2.limits (by decide) HJl.out.1.ok
  clear C hb9 HB8 HA8 HBt8 HC8 HAb8 HBa8 HL8 HM8 hN jn kn
  have C := hide (packed_fr w9 _ n HL9.out (HT.out.below HB9.out htl) HJl.out.1.ok HLl.out)
  go_wp2_with fail
  refine C.out.mono ?_
  rintro e w10 ⟨rfl, hb10⟩
  have HB10 := hide (HB9.out.trans (hb10.mono HB9.out.size))
  have HA10 := hide (HA9.out.on hb10)
  have HBt10 := hide (HBt9.out.on hb10)
  have HC10 := hide (HC9.out.on hb10)
  have HAb10 := hide (HAb9.out.on hb10)
  have HBa10 := hide (HBa9.out.on hb10)
  have HL10 := hide (HL9.out.on hb10)
  have HM10 := hide (HM9.out.on hb10)
  have HN10 := hide (HN9.out.on hb10)
  clear C hb10 HB9 HA9 HBt9 HC9 HAb9 HBa9 HL9 HM9 HN9
  have C := hide (packed_fr w10 _ a HA10.out (HT.out.below HB10.out htl) HO.out.1.1 HO.out.2.1.1)
  go_wp2_with fail
  refine C.out.mono ?_
  rintro e w11 ⟨rfl, hb11⟩
  have HB11 := hide (HB10.out.trans (hb11.mono HB10.out.size))
  have HBt11 := hide (HBt10.out.on hb11)
  have HC11 := hide (HC10.out.on hb11)
  have HAb11 := hide (HAb10.out.on hb11)
  have HBa11 := hide (HBa10.out.on hb11)
  have HL11 := hide (HL10.out.on hb11)
  have HM11 := hide (HM10.out.on hb11)
  have HN11 := hide (HN10.out.on hb11)
  clear C hb11 HB10 HA10 HBt10 HC10 HAb10 HBa10 HL10 HM10 HN10
  have C := hide (packed_fr w11 _ b HBt11.out (HT.out.below HB11.out htl) HO.out.1.2.1 HO.out.2.1.2.1)
  go_wp2_with fail
  refine C.out.mono ?_
  rintro e w12 ⟨rfl, hb12⟩
  have HB12 := hide (HB11.out.trans (hb12.mono HB11.out.size))
  have HC12 := hide (HC11.out.on hb12)
  have HAb12 := hide (HAb11.out.on hb12)
  have HBa12 := hide (HBa11.out.on hb12)
  have HL12 := hide (HL11.out.on hb12)
  have HM12 := hide (HM11.out.on hb12)
  have HN12 := hide (HN11.out.on hb12)
  clear C hb12 HB11 HBt11 HC11 HAb11 HBa11 HL11 HM11 HN11
  have C := hide (packed_fr w12 _ c HC12.out (HT.out.below HB12.out htl) HO.out.1.2.2 HO.out.2.1.2.2)
  go_wp2_with fail
  refine C.out.mono ?_
  rintro e w13 ⟨rfl, hb13⟩
  have HB13 := hide (HB12.out.trans (hb13.mono HB12.out.size))
  have HAb13 := hide (HAb12.out.on hb13)
  have HBa13 := hide (HBa12.out.on hb13)
  have HL13 := hide (HL12.out.on hb13)
  have HM13 := hide (HM12.out.on hb13)
  have HN13 := hide (HN12.out.on hb13)
  clear C hb13 HB12 HC12 HAb12 HBa12 HL12 HM12 HN12
  have HAll : Hid (∀ bs, bs = a ∨ bs = b ∨ bs = c → BatchOk bs ∧ LimitsOk bs ∧ InRange bs) := fun bs h => by
    rcases h with rfl | rfl | rfl
    · exact ⟨HO.out.1.1, HO.out.2.1.1, HO.out.2.2.1.1⟩
    · exact ⟨HO.out.1.2.1, HO.out.2.1.2.1, HO.out.2.2.1.2.1⟩
    · exact ⟨HO.out.1.2.2, HO.out.2.1.2.2, HO.out.2.2.1.2.2⟩
  have C := hide (merged_frames W w13 [a, b, c] n HB13.out HT.out (fun bs h => HAll.out bs (by simpa using h)) (by simp) HJl.out.1 HLl.out)
  go_wp2_with fail
  refine C.out.mono ?_
  rintro e w14 ⟨rfl, hb14⟩
  have HB14 := hide (HB13.out.trans (hb14.mono HB13.out.size))
  have HAb14 := hide (HAb13.out.on hb14)
  have HBa14 := hide (HBa13.out.on hb14)
  have HL14 := hide (HL13.out.on hb14)
  have HM14 := hide (HM13.out.on hb14)
  have HN14 := hide (HN13.out.on hb14)
  clear C hb14 HB13 HAb13 HBa13 HL13 HM13 HN13
  have C := hide (merged_frames W w14 [c, a, b, a, c] n HB14.out HT.out (fun bs h => HAll.out bs (by simp only [List.mem_cons, List.not_mem_nil, or_false] at h; rcases h with h | h | h | h | h <;> simp [h])) (by simp) (HJl.out.1.perm fun x => by simp only [List.mem_cons, List.not_mem_nil, or_false]; constructor <;> (first | (rintro (h | h | h | h | h) <;> simp [h]) | (rintro (h | h | h) <;> simp [h]))) HLl.out)
  go_wp2_with fail
  refine C.out.mono ?_
  rintro e w15 ⟨rfl, hb15⟩
  have HB15 := hide (HB14.out.trans (hb15.mono HB14.out.size))
  have HAb15 := hide (HAb14.out.on hb15)
  have HBa15 := hide (HBa14.out.on hb15)
  have HL15 := hide (HL14.out.on hb15)
  have HM15 := hide (HM14.out.on hb15)
  have HN15 := hide (HN14.out.on hb15)
  clear C hb15 HB14 HAb14 HBa14 HL14 HM14 HN14 HAll
  have C := hide (same_any _ _ bav w15 HAb15.out HBa15.out (small_of (HJab.out.2.limits (by decide) HJab.out.1.ok)))
  go_wp2_with fail
  refine C.out.mono ?_
  rintro e w16 ⟨rfl, hb16⟩
  have HB16 := hide (HB15.out.trans (hb16.mono HB15.out.size))
  have HL16 := hide (HL15.out.on hb16)
  have HM16 := hide (HM15.out.on hb16)
  have HN16 := hide (HN15.out.on hb16)
  clear C hb16 HB15 HAb15 HBa15 HL15 HM15 HN15
  have C := hide (same_any _ _ n w16 HL16.out HM16.out (small_of HLl.out))
  go_wp2_with fail
  refine C.out.mono ?_
  rintro e w17 ⟨rfl, hb17⟩
  have HB17 := hide (HB16.out.trans (hb17.mono HB16.out.size))
  have HL17 := hide (HL16.out.on hb17)
  have HN17 := hide (HN16.out.on hb17)
  clear C hb17 HB16 HL16 HM16 HN16
  have C := hide (same_any _ _ n w17 HN17.out HL17.out (small_of HLl.out))
  go_wp2_with fail
  refine C.out.mono ?_
  rintro e w18 ⟨rfl, hb18⟩
  have HB18 := hide (HB17.out.trans (hb18.mono HB17.out.size))
  clear C hb18 HB17 HL17 HN17
  go_wp2
  go_ret
  exact ⟨by rfl, HB18.out⟩
end Go.Proofs.YtamcclcbmenjdaaGreatDoor

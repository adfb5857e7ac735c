/- 'choirlaw.Reads', for any list of texts of bulk at most 1048576: Decode answers the document's batch or error, one behind the other; lists that came out are their owner's own. The second form's statement and its card: its only condition is the row's own bound on the argument's bulk. -/
import Derived.Test.YtamcclcbmenjdaaGreatDoorReadsuptoG9
/- The unpacker: what it keeps, and its steps as functions. -/
namespace Go.Proofs.YtamcclcbmenjdaaGreatDoor
open Go.RowKit Go.Lib

/-- Where an unpacker is: the bit, the state, the last time, step and bits, the window. -/
structure US where
  pos : Nat
  st : Nat
  t : Nat
  d : Nat
  b : Nat
  a : Nat
  z : Nat

/-- Numbers within their bounds. -/
structure UOk (s : ByteArray) (u : US) : Prop where
  ht : u.t ≤ 18446744073709551615
  hd : u.d ≤ 18446744073709551615
  hb : u.b ≤ 18446744073709551615
  haz : u.a + u.z ≤ 64
  hpos : u.pos ≤ 8 * s.size

/-- An unpacker in block ub. -/
structure UP (w : World) (ub : Nat) (s : ByteArray) (u : US) : Prop where
  br : BR w ub 0 s u.pos u.st
  c3 : w.cell? ⟨ub, 3, none⟩ = some (.int .u64 u.t)
  c4 : w.cell? ⟨ub, 4, none⟩ = some (.int .u64 u.d)
  c5 : w.cell? ⟨ub, 5, none⟩ = some (.int .u64 u.b)
  c6 : w.cell? ⟨ub, 6, none⟩ = some (.int .i64 u.a)
  c7 : w.cell? ⟨ub, 7, none⟩ = some (.int .i64 u.z)
  fr : ∀ o, w.frozen? ⟨ub, o, none⟩ = false
  tabs : Tabs w
  hp : 3 ≤ ub

theorem Rd.of_read {w w' : World} {rb ro : Nat} (h : Read w w' rb ro) : Rd w w' rb ro := ⟨h.os, h.tape, h.output, Nat.le_of_eq h.size, fun k _ hk => h.block k hk⟩
theorem UP.read {w w' : World} {ub : Nat} {s : ByteArray} {u : US} (h : UP w ub s u) {p q : Nat} (hb : BR w' ub 0 s p q) (hr : Read w w' ub 0) : UP w' ub s { u with pos := p, st := q } := by
  have hp := h.hp
  exact ⟨hb, (hr.cells 3 (by omega) (by omega)).trans h.c3, (hr.cells 4 (by omega) (by omega)).trans h.c4, (hr.cells 5 (by omega) (by omega)).trans h.c5, (hr.cells 6 (by omega) (by omega)).trans h.c6, (hr.cells 7 (by omega) (by omega)).trans h.c7,
    fun o => (hr.frozen o).trans (h.fr o), h.tabs.kept (hr.block _ (by omega)) (hr.block _ (by omega)), hp⟩
theorem UP.lt {w : World} {ub : Nat} {s : ByteArray} {u : US} (h : UP w ub s u) : ub < w.heap.size := World.block_lt_of_cell? w _ h.c3
/-- Where new blocks are made, and draws. -/
theorem UP.kept {w w' : World} {ub : Nat} {s : ByteArray} {u : US} (h : UP w ub s u) (hk : ∀ k, k < w.heap.size → w'.heap[k]? = w.heap[k]?) : UP w' ub s u := by
  have hb := hk ub h.lt
  have e : ∀ o, w'.cell? ⟨ub, o, none⟩ = w.cell? ⟨ub, o, none⟩ := fun o => World.cell?_of_block (a := ⟨ub, o, none⟩) hb
  have f : ∀ o, w'.frozen? ⟨ub, o, none⟩ = w.frozen? ⟨ub, o, none⟩ := fun o => World.frozen?_of_block (a := ⟨ub, o, none⟩) hb
  have hp := h.hp
  have hl := h.lt
  exact ⟨⟨(e 0).trans h.br.c0, (e 1).trans h.br.c1, (e 2).trans h.br.c2, (f 1).trans h.br.f1, (f 2).trans h.br.f2⟩, (e 3).trans h.c3, (e 4).trans h.c4, (e 5).trans h.c5, (e 6).trans h.c6, (e 7).trans h.c7,
    fun o => (f o).trans (h.fr o), h.tabs.kept (hk _ (by omega)) (hk _ (by omega)), hp⟩
theorem UP.alloc {w : World} {ub : Nat} {s : ByteArray} {u : US} (h : UP w ub s u) (ob : Obj) : UP (w.alloc ob) ub s u := h.kept fun _ hk => heap_alloc_old w ob hk
theorem UP.drewN {w : World} {ub : Nat} {s : ByteArray} {u : US} (h : UP w ub s u) (q : Nat) : UP (w.drewN q) ub s u := h.kept fun _ _ => rfl
theorem UP.drew {w : World} {ub : Nat} {s : ByteArray} {u : US} (h : UP w ub s u) : UP w.drew ub s u := h.kept fun _ _ => rfl

/-- A store into one cell of the unpacker. -/
theorem UP.cells_set {w : World} {ub : Nat} {s : ByteArray} {u : US} (h : UP w ub s u) (o : Nat) (x : Value) :
    (∀ i, i ≠ o → (w.setCell ⟨ub, o, none⟩ x).cell? ⟨ub, i, none⟩ = w.cell? ⟨ub, i, none⟩) ∧ (∀ i, (w.setCell ⟨ub, o, none⟩ x).frozen? ⟨ub, i, none⟩ = false) ∧ Tabs (w.setCell ⟨ub, o, none⟩ x) := by
  have hp := h.hp
  exact ⟨fun i hi => World.cell?_setCell_other _ _ _ _ (fun e => hi (congrArg Addr.off e).symm), fun i => by rw [World.frozen?_setCell]; exact h.fr i,
    h.tabs.below ((Below.refl ub w).setCell (p := ⟨ub, o, none⟩) (Nat.le_refl ub) x) hp⟩
theorem UP.setD {w : World} {ub : Nat} {s : ByteArray} {u : US} (h : UP w ub s u) (x : Nat) : UP (w.setCell ⟨ub, 4, none⟩ (.int .u64 x)) ub s { u with d := x } := by
  obtain ⟨e, f, t⟩ := h.cells_set 4 (.int .u64 x)
  exact ⟨⟨(e 0 (by omega)).trans h.br.c0, (e 1 (by omega)).trans h.br.c1, (e 2 (by omega)).trans h.br.c2, f 1, f 2⟩, (e 3 (by omega)).trans h.c3, World.cell?_setCell_same _ _ _ h.c4, (e 5 (by omega)).trans h.c5, (e 6 (by omega)).trans h.c6, (e 7 (by omega)).trans h.c7, f, t, h.hp⟩
theorem UP.setT {w : World} {ub : Nat} {s : ByteArray} {u : US} (h : UP w ub s u) (x : Nat) : UP (w.setCell ⟨ub, 3, none⟩ (.int .u64 x)) ub s { u with t := x } := by
  obtain ⟨e, f, t⟩ := h.cells_set 3 (.int .u64 x)
  exact ⟨⟨(e 0 (by omega)).trans h.br.c0, (e 1 (by omega)).trans h.br.c1, (e 2 (by omega)).trans h.br.c2, f 1, f 2⟩, World.cell?_setCell_same _ _ _ h.c3, (e 4 (by omega)).trans h.c4, (e 5 (by omega)).trans h.c5, (e 6 (by omega)).trans h.c6, (e 7 (by omega)).trans h.c7, f, t, h.hp⟩
theorem UP.setB {w : World} {ub : Nat} {s : ByteArray} {u : US} (h : UP w ub s u) (x : Nat) : UP (w.setCell ⟨ub, 5, none⟩ (.int .u64 x)) ub s { u with b := x } := by
  obtain ⟨e, f, t⟩ := h.cells_set 5 (.int .u64 x)
  exact ⟨⟨(e 0 (by omega)).trans h.br.c0, (e 1 (by omega)).trans h.br.c1, (e 2 (by omega)).trans h.br.c2, f 1, f 2⟩, (e 3 (by omega)).trans h.c3, (e 4 (by omega)).trans h.c4, World.cell?_setCell_same _ _ _ h.c5, (e 6 (by omega)).trans h.c6, (e 7 (by omega)).trans h.c7, f, t, h.hp⟩
theorem UP.setA {w : World} {ub : Nat} {s : ByteArray} {u : US} (h : UP w ub s u) (x : Nat) : UP (w.setCell ⟨ub, 6, none⟩ (.int .i64 x)) ub s { u with a := x } := by
  obtain ⟨e, f, t⟩ := h.cells_set 6 (.int .i64 x)
  exact ⟨⟨(e 0 (by omega)).trans h.br.c0, (e 1 (by omega)).trans h.br.c1, (e 2 (by omega)).trans h.br.c2, f 1, f 2⟩, (e 3 (by omega)).trans h.c3, (e 4 (by omega)).trans h.c4, (e 5 (by omega)).trans h.c5, World.cell?_setCell_same _ _ _ h.c6, (e 7 (by omega)).trans h.c7, f, t, h.hp⟩
theorem UP.setZ {w : World} {ub : Nat} {s : ByteArray} {u : US} (h : UP w ub s u) (x : Nat) : UP (w.setCell ⟨ub, 7, none⟩ (.int .i64 x)) ub s { u with z := x } := by
  obtain ⟨e, f, t⟩ := h.cells_set 7 (.int .i64 x)
  exact ⟨⟨(e 0 (by omega)).trans h.br.c0, (e 1 (by omega)).trans h.br.c1, (e 2 (by omega)).trans h.br.c2, f 1, f 2⟩, (e 3 (by omega)).trans h.c3, (e 4 (by omega)).trans h.c4, (e 5 (by omega)).trans h.c5, (e 6 (by omega)).trans h.c6, World.cell?_setCell_same _ _ _ h.c7, f, t, h.hp⟩
theorem UP.setSt {w : World} {ub : Nat} {s : ByteArray} {u : US} (h : UP w ub s u) (x : Nat) : UP (w.setCell ⟨ub, 2, none⟩ (.int .i64 x)) ub s { u with st := x } := by
  obtain ⟨e, f, t⟩ := h.cells_set 2 (.int .i64 x)
  exact ⟨⟨(e 0 (by omega)).trans h.br.c0, (e 1 (by omega)).trans h.br.c1, World.cell?_setCell_same _ _ _ h.br.c2, f 1, f 2⟩, (e 3 (by omega)).trans h.c3, (e 4 (by omega)).trans h.c4, (e 5 (by omega)).trans h.c5, (e 6 (by omega)).trans h.c6, (e 7 (by omega)).trans h.c7, f, t, h.hp⟩

/-- A time. -/
def timeU (s : ByteArray) (u : US) : US :=
  let m := mk s 4 u.pos u.st
  let x := tk s m.2.1 m.2.2 (stepWidth m.1)
  { u with pos := x.2.1, st := x.2.2, d := add64 u.d (sub64 x.1 (stepShift m.1)), t := add64 u.t (add64 u.d (sub64 x.1 (stepShift m.1))) }
/-- A new window. -/
def winU (s : ByteArray) (u : US) : US :=
  let x := tk s u.pos u.st 5
  let y := tk s x.2.1 x.2.2 6
  if x.1 + (y.1 + 1) ≤ 64 then { u with pos := y.2.1, st := y.2.2, a := x.1, z := y.1 + 1 } else { u with pos := y.2.1, st := 1, a := 0, z := 0 }
/-- Bits by the window that is there. -/
def inU (s : ByteArray) (u : US) : US :=
  let x := tk s u.pos u.st u.z
  { u with pos := x.2.1, st := x.2.2, b := u.b ^^^ (x.1 * 2 ^ (64 - u.a - u.z)) }
def bitU (s : ByteArray) (u : US) : US :=
  let m := mk s 2 u.pos u.st
  let u1 : US := { u with pos := m.2.1, st := m.2.2 }
  if m.1 = 0 then u1 else if m.1 = 2 then inU s (winU s u1) else inU s u1

theorem stepShift_lt' (k : Nat) : stepShift k ≤ 18446744073709551615 := by unfold stepShift; split <;> omega
/-- 64 bits as a time. -/
def toI (t : Nat) : Int := if t < 9223372036854775808 then (t : Int) else (t : Int) - 18446744073709551616
def samU (u : US) : Int × Nat := (toI u.t, u.b)
/-- The first sample, and the n ones behind it. -/
def firstU (s : ByteArray) : US :=
  let x := tk s 0 0 64
  let y := tk s x.2.1 x.2.2 64
  ⟨y.2.1, y.2.2, x.1, 0, y.1, 0, 0⟩
def stepU (s : ByteArray) (u : US) : US := bitU s (timeU s u)
def seqU (s : ByteArray) (u : US) : Nat → List (Int × Nat) × US
  | 0 => ([samU u], u)
  | n + 1 => ((seqU s u n).1 ++ [samU (stepU s (seqU s u n).2)], stepU s (seqU s u n).2)
theorem seqU_length (s : ByteArray) (u : US) (n : Nat) : (seqU s u n).1.length = n + 1 := by
  induction n with
  | zero => rfl
  | succ n ih => simp [seqU, ih]
end Go.Proofs.YtamcclcbmenjdaaGreatDoor

/- Bits, numbers and texts that are packed are read again; what stands around a payload: pure. -/
namespace Go.Proofs.YtamcclcbmenjdaaGreatDoor

theorem byteOf_bit (f : Nat → Bool) (m : Nat) (hm : m < 8) : Pl.byteOf f / 2 ^ (7 - m) % 2 = (f m).toNat := by
  have h : ∀ b : Bool, b.toNat ≤ 1 := fun b => by cases b <;> decide
  have := h (f 0); have := h (f 1); have := h (f 2); have := h (f 3); have := h (f 4); have := h (f 5); have := h (f 6); have := h (f 7)
  have e : m = 0 ∨ m = 1 ∨ m = 2 ∨ m = 3 ∨ m = 4 ∨ m = 5 ∨ m = 6 ∨ m = 7 := by omega
  unfold Pl.byteOf
  rcases e with rfl | rfl | rfl | rfl | rfl | rfl | rfl | rfl <;> simp <;> omega
theorem bitAt_pack (l : List Bool) (i : Nat) (hi : i < l.length) : bitAt (Pl.pack l) i = (l.getD i false).toNat := by
  unfold bitAt
  have hj : i / 8 < (l.length + 7) / 8 := by omega
  have e : (Pl.pack l).getD (i / 8) 0 = Pl.byteAt l (i / 8) := by
    rw [List.getD_eq_getElem?_getD, Pl.pack, List.getElem?_map, List.getElem?_range hj]; rfl
  rw [e, Pl.byteAt_toNat, byteOf_bit _ _ (Nat.mod_lt _ (by decide))]
  show (l.getD (8 * (i / 8) + i % 8) false).toNat = _
  rw [Nat.div_add_mod]
/-- The number that bits make, the highest first. -/
def bval : List Bool → Nat → Nat
  | _, 0 => 0
  | l, k + 1 => 2 * bval l k + (l.getD k false).toNat
theorem valTo_pack (l : List Bool) (p k : Nat) (h : p + k ≤ l.length) : valTo (Pl.pack l) p k = bval (l.drop p) k := by
  induction k with
  | zero => rfl
  | succ k ih =>
    rw [valTo, bval, ih (by omega), bitAt_pack l _ (by omega)]
    congr 2
    simp only [List.getD_eq_getElem?_getD, List.getElem?_drop]
theorem bval_congr (l m : List Bool) (k : Nat) (h : ∀ i, i < k → l.getD i false = m.getD i false) : bval l k = bval m k := by
  induction k with
  | zero => rfl
  | succ k ih => rw [bval, bval, ih fun i hi => h i (by omega), h k (by omega)]
theorem bval_app (l m : List Bool) : bval (l ++ m) l.length = bval l l.length :=
  bval_congr _ _ _ fun i hi => by simp only [List.getD_eq_getElem?_getD]; rw [List.getElem?_append_left hi]
theorem bval_cons (b : Bool) (l : List Bool) (k : Nat) : bval (b :: l) (k + 1) = b.toNat * 2 ^ k + bval l k := by
  induction k with
  | zero => simp [bval]
  | succ k ih =>
    rw [bval, ih, bval, Nat.pow_succ]
    simp only [List.getD_eq_getElem?_getD, List.getElem?_cons_succ]
    cases b <;> simp <;> omega
theorem bval_bitsOf (n w : Nat) : bval (Pl.bitsOf n w) w = n % 2 ^ w := by
  induction w with
  | zero => simp [bval, Nat.mod_one]
  | succ w ih =>
    rw [Pl.bitsOf, bval_cons, ih, Nat.pow_succ, Nat.mod_mul]
    have := Nat.mod_two_eq_zero_or_one (n / 2 ^ w)
    rcases this with h | h <;> simp [h] <;> omega

/-- A chunk's bytes. -/
def packed (l : List Bool) : ByteArray := ⟨(Pl.pack l).toArray⟩
theorem packed_size (l : List Bool) : (packed l).size = (l.length + 7) / 8 := by
  show (Pl.pack l).toArray.size = _
  simp [Pl.pack_length]
theorem tk_packed (A C : List Bool) (n w st : Nat) : tk (packed (A ++ (Pl.bitsOf n w ++ C))) A.length st w = (n % 2 ^ w, A.length + w, st) := by
  have hl : (A ++ (Pl.bitsOf n w ++ C)).length = A.length + w + C.length := by simp [Pl.bitsOf_length]; omega
  unfold tk
  rw [packed_size, if_neg (by omega)]
  have : valTo (packed (A ++ (Pl.bitsOf n w ++ C))).data.toList A.length w = n % 2 ^ w := by
    show valTo (Pl.pack (A ++ (Pl.bitsOf n w ++ C))).toArray.toList A.length w = _
    rw [List.toList_toArray, valTo_pack _ _ _ (by omega), List.drop_left]
    have := bval_app (Pl.bitsOf n w) C
    rw [Pl.bitsOf_length] at this
    rw [this, bval_bitsOf]
  rw [this]
theorem tk_one (A C : List Bool) (b : Bool) (st : Nat) : tk (packed (A ++ b :: C)) A.length st 1 = (b.toNat, A.length + 1, st) := by
  have h := tk_packed A C b.toNat 1 st
  have e : Pl.bitsOf b.toNat 1 ++ C = b :: C := by cases b <;> rfl
  rw [e] at h
  rw [h]
  cases b <;> rfl
theorem mk_packed (v last st : Nat) (C : List Bool) (hv : v ≤ last) : ∀ A : List Bool, mk (packed (A ++ (markOf v last ++ C))) last A.length st = (v, A.length + (markOf v last).length, st) := by
  induction v generalizing last with
  | zero =>
    intro A
    cases last with
    | zero => simp [mk, markOf]
    | succ r =>
      have e : A ++ (markOf 0 (r + 1) ++ C) = A ++ false :: C := by simp [markOf]
      rw [e, mk, tk_one]
      simp [markOf]
  | succ v ih =>
    intro A
    cases last with
    | zero => omega
    | succ r =>
      have e : A ++ (markOf (v + 1) (r + 1) ++ C) = A ++ true :: (markOf v r ++ C) := by
        simp [markOf, List.replicate_succ]
      have e2 : A ++ true :: (markOf v r ++ C) = (A ++ [true]) ++ (markOf v r ++ C) := by simp
      rw [e, mk, tk_one, if_pos (by rfl)]
      have h := ih r (by omega) (A ++ [true])
      rw [← e2, show (A ++ [true]).length = A.length + 1 by simp] at h
      simp only [h]
      have e3 : (markOf (v + 1) (r + 1)).length = (markOf v r).length + 1 := by
        simp [markOf, List.replicate_succ]
      rw [e3]
      simp only [Prod.mk.injEq, true_and, and_true]
      omega
/-- A time that was told is read. -/
theorem way_width (e : Nat) : add64 e (stepShift (stepWay e)) % 2 ^ stepWidth (stepWay e) = add64 e (stepShift (stepWay e)) := by
  unfold add64
  by_cases h0 : stepFits e 0 = true
  · have : stepWay e = 0 := by unfold stepWay; rw [if_pos h0]
    rw [this]; unfold stepFits at h0; exact Nat.mod_eq_of_lt (of_decide_eq_true h0)
  by_cases h1 : stepFits e 1 = true
  · have : stepWay e = 1 := by unfold stepWay; rw [if_neg h0, if_pos h1]
    rw [this]; unfold stepFits at h1; exact Nat.mod_eq_of_lt (of_decide_eq_true h1)
  by_cases h2 : stepFits e 2 = true
  · have : stepWay e = 2 := by unfold stepWay; rw [if_neg h0, if_neg h1, if_pos h2]
    rw [this]; unfold stepFits at h2; exact Nat.mod_eq_of_lt (of_decide_eq_true h2)
  by_cases h3 : stepFits e 3 = true
  · have : stepWay e = 3 := by unfold stepWay; rw [if_neg h0, if_neg h1, if_neg h2, if_pos h3]
    rw [this]; unfold stepFits at h3; exact Nat.mod_eq_of_lt (of_decide_eq_true h3)
  · have : stepWay e = 4 := by unfold stepWay; rw [if_neg h0, if_neg h1, if_neg h2, if_neg h3]
    rw [this]
    show (e + 0) % 18446744073709551616 % 2 ^ 64 = (e + 0) % 18446744073709551616
    omega
theorem sub_add64 (e x : Nat) (he : e < 18446744073709551616) (hx : x < 18446744073709551616) : sub64 (add64 e x) x = e := by
  unfold sub64 add64; omega
theorem add_sub64 (a b : Nat) (ha : a < 18446744073709551616) (hb : b < 18446744073709551616) : add64 b (sub64 a b) = a := by
  unfold sub64 add64; omega
theorem stepShift_lt (k : Nat) : stepShift k < 18446744073709551616 := by unfold stepShift; split <;> omega
end Go.Proofs.YtamcclcbmenjdaaGreatDoor
namespace Go.Proofs.YtamcclcbmenjdaaGreatDoor

/-- Bytes as a string's value. -/
def BA (l : List UInt8) : ByteArray := ⟨l.toArray⟩
theorem BA_size (l : List UInt8) : (BA l).size = l.length := by show l.toArray.size = _; simp
theorem BA_list (l : List UInt8) : (BA l).data.toList = l := by show l.toArray.toList = _; simp
theorem BA_of (s : ByteArray) : BA s.data.toList = s := by cases s; simp [BA]
theorem BA_drop (a c : List UInt8) : (BA (a ++ c)).extract a.length (a ++ c).length = BA c := by
  apply ByteArray.ext
  rw [ByteArray.data_extract]
  simp [BA]
theorem BA_take (a c : List UInt8) : (BA (a ++ c)).extract 0 a.length = BA a := by
  apply ByteArray.ext
  rw [ByteArray.data_extract]
  simp [BA]

theorem getD_last (C : List UInt8) (b : UInt8) (rest : List UInt8) : ((b :: rest) ++ C).getD 0 0 = b := rfl
theorem ofNat_toNat (m : Nat) (h : m < 256) : (UInt8.ofNat m).toNat = m := by simp [UInt8.toNat_ofNat']; omega
theorem rdNum_varint (C : List UInt8) (f : Nat) : ∀ (m k F : Nat) (l : List UInt8) (most : Int), m < 2 ^ (7 * (f + 1)) → (∀ j, l.getD (k + j) 0 = (Pl.varintF f m ++ C).getD j 0) → (Pl.varintF f m).length ≤ F →
    ((numTo l k + m * 2 ^ (7 * k) : Nat) : Int) ≤ most → rdNum l most F k = some (numTo l k + m * 2 ^ (7 * k), k + (Pl.varintF f m).length) := by
  have hlast : ∀ (m k F : Nat) (l : List UInt8) (most : Int), m < 128 → l.getD k 0 = UInt8.ofNat m → 1 ≤ F → ((numTo l k + m * 2 ^ (7 * k) : Nat) : Int) ≤ most → rdNum l most F k = some (numTo l k + m * 2 ^ (7 * k), k + 1) := by
    intro m k F l most hm hl hF hmost
    obtain ⟨F', rfl⟩ : ∃ F', F = F' + 1 := ⟨F - 1, by omega⟩
    have hb : (l.getD k 0).toNat = m := by rw [hl, ofNat_toNat m (by omega)]
    have hn : numTo l (k + 1) = numTo l k + m * 2 ^ (7 * k) := by rw [numTo, hb, Nat.mod_eq_of_lt hm]
    rw [rdNum, hb, if_neg (by omega), hn, if_neg (by omega)]
  induction f with
  | zero =>
    intro m k F l most hm hl hF hmost
    have h0 := hl 0
    rw [Nat.add_zero] at h0
    exact hlast m k F l most (by omega) (by rw [h0]; rfl) (by simpa [Pl.varintF] using hF) hmost
  | succ f ih =>
    intro m k F l most hm hl hF hmost
    by_cases hs : m < 128
    · rw [Pl.varintF_small _ _ hs] at hl hF ⊢
      have h0 := hl 0
      rw [Nat.add_zero] at h0
      exact hlast m k F l most hs (by rw [h0]; rfl) (by simpa using hF) hmost
    · rw [Pl.varintF_big _ _ hs] at hl hF ⊢
      have h0 := hl 0
      rw [Nat.add_zero] at h0
      rw [List.length_cons] at hF
      obtain ⟨F', rfl⟩ : ∃ F', F = F' + 1 := ⟨F - 1, by omega⟩
      have hb : (l.getD k 0).toNat = m % 128 + 128 := by
        rw [h0]
        show (UInt8.ofNat (m % 128 + 128)).toNat = _
        exact ofNat_toNat _ (by omega)
      have hn : numTo l (k + 1) = numTo l k + m % 128 * 2 ^ (7 * k) := by rw [numTo, hb]; congr 2; omega
      have hp : 2 ^ (7 * (k + 1)) = 128 * 2 ^ (7 * k) := by rw [show 7 * (k + 1) = 7 * k + 7 by omega, Nat.pow_add]; omega
      have hsum : numTo l (k + 1) + m / 128 * 2 ^ (7 * (k + 1)) = numTo l k + m * 2 ^ (7 * k) := by
        rw [hn, hp, Nat.add_assoc]
        congr 1
        rw [← Nat.mul_assoc, ← Nat.add_mul]
        congr 1
        omega
      rw [rdNum, hb, if_pos (by omega)]
      have h := ih (m / 128) (k + 1) F' l most (by
        rw [show 7 * (f + 1 + 1) = 7 * (f + 1) + 7 by omega, Nat.pow_add] at hm; omega) (fun j => by
        have := hl (j + 1)
        rw [show k + (j + 1) = k + 1 + j by omega] at this
        rw [this]; rfl) (by omega) (by rw [hsum]; exact hmost)
      rw [h, hsum, List.length_cons]
      simp; omega
theorem varintF_len (f : Nat) : ∀ (n j : Nat), n < 2 ^ (7 * (j + 1)) → (Pl.varintF f n).length ≤ j + 1 := by
  induction f with
  | zero => intro n j _; simp [Pl.varintF]
  | succ f ih =>
    intro n j h
    by_cases hs : n < 128
    · rw [Pl.varintF_small _ _ hs]; simp
    · rw [Pl.varintF_big _ _ hs, List.length_cons]
      cases j with
      | zero => omega
      | succ j =>
        have := ih (n / 128) j (by rw [show 7 * (j + 1 + 1) = 7 * (j + 1) + 7 by omega, Nat.pow_add] at h; omega)
        omega
theorem rdNum_of (n : Nat) (C : List UInt8) (most : Int) (hn : n < 2 ^ 63) (hm : (n : Int) ≤ most) : rdNum (Pl.varint n ++ C) most (min (Pl.varint n ++ C).length 9) 0 = some (n, (Pl.varint n).length) := by
  have hl : (Pl.varint n).length ≤ 9 := varintF_len 9 n 8 hn
  have h := rdNum_varint C 9 n 0 (min (Pl.varint n ++ C).length 9) (Pl.varint n ++ C) most (by omega) (fun j => by rw [Nat.zero_add]; rfl) (by
    show (Pl.varint n).length ≤ _
    rw [List.length_append]; omega) (by simpa [numTo] using hm)
  rw [h]
  simp [numTo, Pl.varint]
theorem numR_of (n : Nat) (C : List UInt8) (most : Int) (st : Nat) (hn : n < 2 ^ 63) (hm : (n : Int) ≤ most) : numR (BA (Pl.varint n ++ C)) most st = (n, BA C, st) := by
  unfold numR
  rw [BA_list, BA_size, rdNum_of n C most hn hm]
  simp only
  rw [BA_drop]
theorem textR_of (x C : List UInt8) (most : Int) (st : Nat) (hn : x.length < 2 ^ 63) (hm : (x.length : Int) ≤ most) : textR (BA (Pl.varint x.length ++ (x ++ C))) most st = (BA x, BA C, st) := by
  unfold textR
  rw [BA_list, BA_size, rdNum_of _ _ most hn hm]
  simp only
  rw [BA_drop, BA_size, if_pos (by rw [List.length_append, List.length_append]; omega), BA_take, BA_drop]
end Go.Proofs.YtamcclcbmenjdaaGreatDoor
namespace Go.Proofs.YtamcclcbmenjdaaGreatDoor

/-- The number that the bytes from the third on make, the highest first. -/
def pszTo (l : List UInt8) : Nat → Nat
  | 0 => 0
  | k + 1 => 256 * pszTo l k + (l.getD (3 + k) 0).toNat
theorem pszTo_lt (l : List UInt8) (k : Nat) : pszTo l k < 256 ^ k := by
  induction k with
  | zero => simp [pszTo]
  | succ k ih => rw [pszTo, Nat.pow_succ]; have := (l.getD (3 + k) 0).toNat_lt; omega
/-- What stands around the payload is right. -/
structure Opens (l : List UInt8) : Prop where
  long : 11 ≤ l.length
  mark : l.take 3 = [67, 72, 1]
  size : pszTo l 4 = l.length - 11
  sum : l.drop (l.length - 4) = le32 (Pl.crc (l.take (l.length - 4)))
def inner (l : List UInt8) : List UInt8 := (l.take (l.length - 4)).drop 7
theorem be32_of (a b c d : UInt8) (n : Nat) (h : n = 256 * (256 * (256 * a.toNat + b.toNat) + c.toNat) + d.toNat) : be32 n = [a, b, c, d] := by
  have ha := a.toNat_lt
  have hb := b.toNat_lt
  have hc := c.toNat_lt
  have hd := d.toNat_lt
  have e1 : n / 16777216 % 256 = a.toNat := by omega
  have e2 : n / 65536 % 256 = b.toNat := by omega
  have e3 : n / 256 % 256 = c.toNat := by omega
  have e4 : n % 256 = d.toNat := by omega
  unfold be32
  rw [e1, e2, e3, e4]
  simp
theorem frame_of {l : List UInt8} (h : Opens l) : l = frameOf (inner l) ∧ (inner l).length = l.length - 11 := by
  obtain ⟨h1, h2, h3, h4⟩ := h
  have hl : (inner l).length = l.length - 11 := by unfold inner; rw [List.length_drop, List.length_take]; omega
  refine ⟨?_, hl⟩
  have hh : l.take (l.length - 4) = headOf (inner l) := by
    unfold headOf
    rw [hl, ← h3]
    have e : ∀ k, k < 7 → (l.take (l.length - 4))[k]? = l[k]? := fun k hk => by rw [List.getElem?_take, if_pos (by omega)]
    have hb : be32 (pszTo l 4) = [l.getD 3 0, l.getD 4 0, l.getD 5 0, l.getD 6 0] := be32_of _ _ _ _ _ (by simp only [pszTo, Nat.mul_zero, Nat.zero_add, Nat.add_zero])
    rw [hb]
    have hsplit : l.take (l.length - 4) = (l.take (l.length - 4)).take 7 ++ inner l := (List.take_append_drop 7 _).symm
    have h7 : (l.take (l.length - 4)).take 7 = [67, 72, 1] ++ [l.getD 3 0, l.getD 4 0, l.getD 5 0, l.getD 6 0] := by
      rw [List.take_take, show min 7 (l.length - 4) = 7 by omega]
      have : l.take 7 = l.take 3 ++ (l.drop 3).take 4 := by
        rw [show (7 : Nat) = 3 + 4 by rfl, List.take_add]
      rw [this, h2]
      congr 1
      apply List.ext_getElem?
      intro j
      rw [List.getElem?_take]
      by_cases hj : j < 4
      · rw [if_pos hj, List.getElem?_drop]
        have hlt : 3 + j < l.length := by omega
        have e2 : l[3 + j]? = some (l.getD (3 + j) 0) := by
          rw [List.getD_eq_getElem?_getD, List.getElem?_eq_getElem hlt]; rfl
        rw [e2]
        have e3 : j = 0 ∨ j = 1 ∨ j = 2 ∨ j = 3 := by omega
        rcases e3 with rfl | rfl | rfl | rfl <;> rfl
      · rw [if_neg hj, List.getElem?_eq_none (by simp; omega)]
    rw [hsplit, h7]
  have := (List.take_append_drop (l.length - 4) l).symm
  rw [h4] at this
  rw [hh] at this
  exact this
theorem frameOf_length (p : List UInt8) : (frameOf p).length = p.length + 11 := by
  unfold frameOf headOf; simp [be32, le32]
theorem headOf_length (p : List UInt8) : (headOf p).length = p.length + 7 := by
  unfold headOf; simp [be32]
theorem opens_of (p : List UInt8) (hp : p.length < 4294967296) : Opens (frameOf p) ∧ inner (frameOf p) = p := by
  have hl := frameOf_length p
  have hh := headOf_length p
  have ht : (frameOf p).take ((frameOf p).length - 4) = headOf p := by
    rw [hl, show p.length + 11 - 4 = (headOf p).length by omega]
    exact List.take_left
  refine ⟨⟨by omega, rfl, ?_, ?_⟩, ?_⟩
  · rw [hl]
    show 256 * (256 * (256 * (256 * 0 + (UInt8.ofNat (p.length / 16777216 % 256)).toNat) + (UInt8.ofNat (p.length / 65536 % 256)).toNat) + (UInt8.ofNat (p.length / 256 % 256)).toNat) + (UInt8.ofNat (p.length % 256)).toNat = _
    rw [ofNat_toNat _ (by omega), ofNat_toNat _ (by omega), ofNat_toNat _ (by omega), ofNat_toNat _ (by omega)]
    omega
  · rw [ht, hl, show p.length + 11 - 4 = (headOf p).length by omega]
    exact List.drop_left
  · unfold inner
    rw [ht]
    have e7 : ([67, 72, 1] ++ be32 p.length).length = 7 := rfl
    have := List.drop_left (l₁ := [67, 72, 1] ++ be32 p.length) (l₂ := p)
    rw [e7] at this
    exact this
end Go.Proofs.YtamcclcbmenjdaaGreatDoor

/- What the readers make of bytes, as functions. -/
namespace Go.Proofs.YtamcclcbmenjdaaGreatDoor

abbrev Rest := ByteArray × Nat
def gone : Rest := (⟨#[]⟩, 1)
/-- n things, one behind the other. -/
def seqTo {α : Type} (f : Rest → α × Rest) (s : Rest) : Nat → List α × Rest
  | 0 => ([], s)
  | n + 1 => ((seqTo f s n).1 ++ [(f (seqTo f s n).2).1], (f (seqTo f s n).2).2)
theorem seqTo_length {α : Type} (f : Rest → α × Rest) (s : Rest) (n : Nat) : (seqTo f s n).1.length = n := by
  induction n with
  | zero => rfl
  | succ n ih => simp [seqTo, ih]
theorem seqTo_inv {α : Type} (f : Rest → α × Rest) (P : Rest → Prop) (hf : ∀ s, P s → P (f s).2) (s : Rest) (h : P s) (n : Nat) : P (seqTo f s n).2 := by
  induction n with
  | zero => exact h
  | succ n ih => exact hf _ ih
theorem seqTo_all {α : Type} (f : Rest → α × Rest) (P : α → Prop) (hf : ∀ s, P (f s).1) (s : Rest) (n : Nat) : ∀ x ∈ (seqTo f s n).1, P x := by
  induction n with
  | zero => intro x hx; cases hx
  | succ n ih =>
    intro x hx
    rcases List.mem_append.1 hx with h | h
    · exact ih x h
    · rw [List.mem_singleton.1 h]; exact hf _

def tofR (texts : List ByteArray) (s : Rest) : ByteArray × Rest :=
  (if (numR s.1 ((texts.length : Int) - 1) s.2).2.2 = 1 then ⟨#[]⟩ else texts.getD (numR s.1 ((texts.length : Int) - 1) s.2).1 ⟨#[]⟩, (numR s.1 ((texts.length : Int) - 1) s.2).2)
def labR (texts : List ByteArray) (s : Rest) : Lab × Rest := (((tofR texts s).1, (tofR texts (tofR texts s).2).1), (tofR texts (tofR texts s).2).2)
def labsR (texts : List ByteArray) (s : Rest) : List Lab × Rest := seqTo (labR texts) (numR s.1 4 s.2).2 (numR s.1 4 s.2).1
/-- The samples of a chunk, n of them, one at least. -/
def chunkR (s : ByteArray) (n : Nat) : List (Int × Nat) × US := seqU s (firstU s) (n - 1)
def samplesR (s : Rest) : List (Int × Nat) × Rest :=
  let c := numR s.1 40 s.2
  let t := textR c.2.1 c.2.1.size c.2.2
  if c.1 = 0 then ([], gone) else if (chunkR t.1 c.1).2.st = 1 then ((chunkR t.1 c.1).1, gone) else ((chunkR t.1 c.1).1, t.2)
def serR (texts : List ByteArray) (s : Rest) : Ser × Rest := (((labsR texts s).1, (samplesR (labsR texts s).2).1), (samplesR (labsR texts s).2).2)
def textsR (s : Rest) : List ByteArray × Rest := seqTo (fun s => textR s.1 16 s.2) (numR s.1 64 s.2).2 (numR s.1 64 s.2).1
/-- A payload: its series, and the state. -/
def payR (s : ByteArray) : List Ser × Rest :=
  let t := textsR (s, 0)
  let c := numR t.2.1 8 t.2.2
  seqTo (serR t.1) c.2 c.1

/-- The rest is no longer than m, its state 0 or 1. -/
def Short (m : Nat) (s : Rest) : Prop := s.1.size ≤ m ∧ s.2 ≤ 1
theorem short_num {m : Nat} {s : Rest} (h : Short m s) (most : Int) : Short m (numR s.1 most s.2).2 := ⟨Nat.le_trans (numR_size _ _ _) h.1, numR_st _ _ _ h.2⟩
theorem short_text {m : Nat} {s : Rest} (h : Short m s) (most : Int) : Short m (textR s.1 most s.2).2 := ⟨Nat.le_trans (textR_size _ _ _) h.1, textR_st _ _ _ h.2⟩
theorem short_gone (m : Nat) : Short m gone := ⟨Nat.zero_le _, Nat.le_refl _⟩
theorem short_tof {m : Nat} {s : Rest} (texts : List ByteArray) (h : Short m s) : Short m (tofR texts s).2 := short_num h _
theorem short_lab {m : Nat} {s : Rest} (texts : List ByteArray) (h : Short m s) : Short m (labR texts s).2 := short_tof texts (short_tof texts h)
theorem short_labs {m : Nat} {s : Rest} (texts : List ByteArray) (h : Short m s) : Short m (labsR texts s).2 := seqTo_inv (labR texts) (Short m) (fun _ h => short_lab texts h) _ (short_num h 4) _
theorem short_samples {m : Nat} {s : Rest} (h : Short m s) : Short m (samplesR s).2 := by
  unfold samplesR
  simp only
  split
  · exact short_gone m
  · split
    · exact short_gone m
    · exact short_text (short_num h _) _
theorem short_ser {m : Nat} {s : Rest} (texts : List ByteArray) (h : Short m s) : Short m (serR texts s).2 := short_samples (short_labs texts h)
theorem short_texts {m : Nat} {s : Rest} (h : Short m s) : Short m (textsR s).2 := seqTo_inv _ (Short m) (fun _ h => short_text h 16) _ (short_num h 64) _
theorem num_nat (s : Rest) (most : Nat) : (numR s.1 (most : Int) s.2).1 ≤ most := by have := numR_le s.1 most s.2 (by omega); omega
end Go.Proofs.YtamcclcbmenjdaaGreatDoor

/- The byte reader: textOf. -/
namespace Go.Proofs.YtamcclcbmenjdaaGreatDoor
open Go.RowKit Go.Lib

theorem Rd.cell {w w' : World} {yb yo k : Nat} (h : Rd w w' yb yo) (hk : k < w.heap.size) (hy : k ≠ yb) (o : Nat) : w'.cell? ⟨k, o, none⟩ = w.cell? ⟨k, o, none⟩ := World.cell?_of_block (a := ⟨k, o, none⟩) (h.block k hk hy)

set_option maxRecDepth 100000 in
set_option maxHeartbeats 400000 in
theorem textOf_any (yb yo tb : Nat) (p : Rest) (tv : Value) (texts : List ByteArray) (w : World) (H : YR w yb yo p.1 p.2) (hs : Short 140737488355328 p) (ht : TextsAt w tv tb texts) (htb : tb ≠ yb) (htw : tb < w.heap.size) (htl : texts.length ≤ 1000) :
    Calls Tryz.prog 133 #[.pointer (some ⟨yb, yo, none⟩), tv] w fun e w' => e = .returned (.string (tofR texts p).1) ∧ YR w' yb yo (tofR texts p).2.1 (tofR texts p).2.2 ∧ Rd w w' yb yo := by
  have C := hide (number_is yb yo p.2 p.1 ((texts.length : Int) - 1) w H hs.1)
  have hok := numR_ok p.1 ((texts.length : Int) - 1) p.2
  have hst := numR_st p.1 ((texts.length : Int) - 1) p.2 hs.2
  obtain ⟨a, c, hv⟩ : ∃ a c, tv = .slice a texts.length c := by
    rcases ht.shape with ⟨rfl, a, c, rfl⟩ | ⟨o, c, rfl, _⟩ <;> exact ⟨_, _, rfl⟩
  have HE : Hid (tofR texts p = (if (numR p.1 ((texts.length : Int) - 1) p.2).2.2 = 1 then ⟨#[]⟩ else texts.getD (numR p.1 ((texts.length : Int) - 1) p.2).1 ⟨#[]⟩, (numR p.1 ((texts.length : Int) - 1) p.2).2)) := rfl
  generalize numR p.1 ((texts.length : Int) - 1) p.2 = r at *
  obtain ⟨n, s1, q⟩ := r
  simp only at C hok hst HE
  have HT := hide ht
  clear H ht hs
  subst hv
  go_enter Tryz.func133, Tryz.ntmps133
  go_wp2_with fail
  refine C.out.mono ?_
  rintro e w1 ⟨rfl, hY, hR⟩
  have c1 := hY.c1
  have HY := hide hY
  have HR := hide hR
  clear hY hR C
  by_cases hq : q = 1
  · subst hq
    clear hok hst
    go_wp2
    go_ret
    rw [HE.out]
    exact ⟨rfl, HY.out, HR.out⟩
  · have hq0 : q = 0 := by omega
    subst hq0
    have hn := hok (by omega)
    have hlt : n < texts.length := by omega
    obtain ⟨x, hx⟩ : ∃ x, texts[n]? = some x := ⟨_, List.getElem?_eq_getElem hlt⟩
    have hc : ∃ o, a = some ⟨tb, o, none⟩ ∧ w.cell? ⟨tb, o + n, none⟩ = some (.string x) := by
      rcases HT.out.shape with ⟨h0, _⟩ | ⟨o, c', hv, hcell⟩
      · rw [h0] at hx; cases hx
      · cases hv; exact ⟨o, rfl, hcell n x hx⟩
    obtain ⟨o, rfl, hc⟩ := hc
    have m1 := (HR.out.cell htw htb (o + n)).trans hc
    have HG : Hid (texts.getD n ⟨#[]⟩ = x) := by show _ = _; rw [List.getD_eq_getElem?_getD, hx]; rfl
    clear hc hx hn hok hst hq
    go_wp2
    go_ret
    rw [HE.out, if_neg (by decide), HG.out]
    exact ⟨rfl, HY.out, HR.out⟩
end Go.Proofs.YtamcclcbmenjdaaGreatDoor

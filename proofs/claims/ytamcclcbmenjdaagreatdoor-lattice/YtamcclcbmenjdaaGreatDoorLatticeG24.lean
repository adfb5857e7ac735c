/- 'choirkeep.Lattice', for any three lists of raw samples: joins do not hang on order, grouping and how often; with bytes and without it is the same. The first form's statement and its card: no condition beside the row's own. -/
import Derived.Test.YtamcclcbmenjdaaGreatDoorLatticeG23
/- The unpacker: what it keeps, and its steps as functions. -/
namespace Go.Proofs.YtamcclcbmenjdaaGreatDoor
open Go.RowKit Go.Lib

/-- Where an unpacker is: the bit, the state, the last time, step and bits, the window. -/
structure US where
  pos : Nat
  st : Nat
  t : Nat
  d : Nat
  b : Nat
  a : Nat
  z : Nat

/-- Numbers within their bounds. -/
structure UOk (s : ByteArray) (u : US) : Prop where
  ht : u.t ≤ 18446744073709551615
  hd : u.d ≤ 18446744073709551615
  hb : u.b ≤ 18446744073709551615
  haz : u.a + u.z ≤ 64
  hpos : u.pos ≤ 8 * s.size

/-- An unpacker in block ub. -/
structure UP (w : World) (ub : Nat) (s : ByteArray) (u : US) : Prop where
  br : BR w ub 0 s u.pos u.st
  c3 : w.cell? ⟨ub, 3, none⟩ = some (.int .u64 u.t)
  c4 : w.cell? ⟨ub, 4, none⟩ = some (.int .u64 u.d)
  c5 : w.cell? ⟨ub, 5, none⟩ = some (.int .u64 u.b)
  c6 : w.cell? ⟨ub, 6, none⟩ = some (.int .i64 u.a)
  c7 : w.cell? ⟨ub, 7, none⟩ = some (.int .i64 u.z)
  fr : ∀ o, w.frozen? ⟨ub, o, none⟩ = false
  tabs : Tabs w
  hp : 3 ≤ ub

theorem Rd.of_read {w w' : World} {rb ro : Nat} (h : Read w w' rb ro) : Rd w w' rb ro := ⟨h.os, h.tape, h.output, Nat.le_of_eq h.size, fun k _ hk => h.block k hk⟩
theorem UP.read {w w' : World} {ub : Nat} {s : ByteArray} {u : US} (h : UP w ub s u) {p q : Nat} (hb : BR w' ub 0 s p q) (hr : Read w w' ub 0) : UP w' ub s { u with pos := p, st := q } := by
  have hp := h.hp
  exact ⟨hb, (hr.cells 3 (by omega) (by omega)).trans h.c3, (hr.cells 4 (by omega) (by omega)).trans h.c4, (hr.cells 5 (by omega) (by omega)).trans h.c5, (hr.cells 6 (by omega) (by omega)).trans h.c6, (hr.cells 7 (by omega) (by omega)).trans h.c7,
    fun o => (hr.frozen o).trans (h.fr o), h.tabs.kept (hr.block _ (by omega)) (hr.block _ (by omega)), hp⟩
theorem UP.lt {w : World} {ub : Nat} {s : ByteArray} {u : US} (h : UP w ub s u) : ub < w.heap.size := World.block_lt_of_cell? w _ h.c3
/-- Where new blocks are made, and draws. -/
theorem UP.kept {w w' : World} {ub : Nat} {s : ByteArray} {u : US} (h : UP w ub s u) (hk : ∀ k, k < w.heap.size → w'.heap[k]? = w.heap[k]?) : UP w' ub s u := by
  have hb := hk ub h.lt
  have e : ∀ o, w'.cell? ⟨ub, o, none⟩ = w.cell? ⟨ub, o, none⟩ := fun o => World.cell?_of_block (a := ⟨ub, o, none⟩) hb
  have f : ∀ o, w'.frozen? ⟨ub, o, none⟩ = w.frozen? ⟨ub, o, none⟩ := fun o => World.frozen?_of_block (a := ⟨ub, o, none⟩) hb
  have hp := h.hp
  have hl := h.lt
  exact ⟨⟨(e 0).trans h.br.c0, (e 1).trans h.br.c1, (e 2).trans h.br.c2, (f 1).trans h.br.f1, (f 2).trans h.br.f2⟩, (e 3).trans h.c3, (e 4).trans h.c4, (e 5).trans h.c5, (e 6).trans h.c6, (e 7).trans h.c7,
    fun o => (f o).trans (h.fr o), h.tabs.kept (hk _ (by omega)) (hk _ (by omega)), hp⟩
theorem UP.alloc {w : World} {ub : Nat} {s : ByteArray} {u : US} (h : UP w ub s u) (ob : Obj) : UP (w.alloc ob) ub s u := h.kept fun _ hk => heap_alloc_old w ob hk
theorem UP.drewN {w : World} {ub : Nat} {s : ByteArray} {u : US} (h : UP w ub s u) (q : Nat) : UP (w.drewN q) ub s u := h.kept fun _ _ => rfl
theorem UP.drew {w : World} {ub : Nat} {s : ByteArray} {u : US} (h : UP w ub s u) : UP w.drew ub s u := h.kept fun _ _ => rfl

/-- A store into one cell of the unpacker. -/
theorem UP.cells_set {w : World} {ub : Nat} {s : ByteArray} {u : US} (h : UP w ub s u) (o : Nat) (x : Value) :
    (∀ i, i ≠ o → (w.setCell ⟨ub, o, none⟩ x).cell? ⟨ub, i, none⟩ = w.cell? ⟨ub, i, none⟩) ∧ (∀ i, (w.setCell ⟨ub, o, none⟩ x).frozen? ⟨ub, i, none⟩ = false) ∧ Tabs (w.setCell ⟨ub, o, none⟩ x) := by
  have hp := h.hp
  exact ⟨fun i hi => World.cell?_setCell_other _ _ _ _ (fun e => hi (congrArg Addr.off e).symm), fun i => by rw [World.frozen?_setCell]; exact h.fr i,
    h.tabs.below ((Below.refl ub w).setCell (p := ⟨ub, o, none⟩) (Nat.le_refl ub) x) hp⟩
theorem UP.setD {w : World} {ub : Nat} {s : ByteArray} {u : US} (h : UP w ub s u) (x : Nat) : UP (w.setCell ⟨ub, 4, none⟩ (.int .u64 x)) ub s { u with d := x } := by
  obtain ⟨e, f, t⟩ := h.cells_set 4 (.int .u64 x)
  exact ⟨⟨(e 0 (by omega)).trans h.br.c0, (e 1 (by omega)).trans h.br.c1, (e 2 (by omega)).trans h.br.c2, f 1, f 2⟩, (e 3 (by omega)).trans h.c3, World.cell?_setCell_same _ _ _ h.c4, (e 5 (by omega)).trans h.c5, (e 6 (by omega)).trans h.c6, (e 7 (by omega)).trans h.c7, f, t, h.hp⟩
theorem UP.setT {w : World} {ub : Nat} {s : ByteArray} {u : US} (h : UP w ub s u) (x : Nat) : UP (w.setCell ⟨ub, 3, none⟩ (.int .u64 x)) ub s { u with t := x } := by
  obtain ⟨e, f, t⟩ := h.cells_set 3 (.int .u64 x)
  exact ⟨⟨(e 0 (by omega)).trans h.br.c0, (e 1 (by omega)).trans h.br.c1, (e 2 (by omega)).trans h.br.c2, f 1, f 2⟩, World.cell?_setCell_same _ _ _ h.c3, (e 4 (by omega)).trans h.c4, (e 5 (by omega)).trans h.c5, (e 6 (by omega)).trans h.c6, (e 7 (by omega)).trans h.c7, f, t, h.hp⟩
theorem UP.setB {w : World} {ub : Nat} {s : ByteArray} {u : US} (h : UP w ub s u) (x : Nat) : UP (w.setCell ⟨ub, 5, none⟩ (.int .u64 x)) ub s { u with b := x } := by
  obtain ⟨e, f, t⟩ := h.cells_set 5 (.int .u64 x)
  exact ⟨⟨(e 0 (by omega)).trans h.br.c0, (e 1 (by omega)).trans h.br.c1, (e 2 (by omega)).trans h.br.c2, f 1, f 2⟩, (e 3 (by omega)).trans h.c3, (e 4 (by omega)).trans h.c4, World.cell?_setCell_same _ _ _ h.c5, (e 6 (by omega)).trans h.c6, (e 7 (by omega)).trans h.c7, f, t, h.hp⟩
theorem UP.setA {w : World} {ub : Nat} {s : ByteArray} {u : US} (h : UP w ub s u) (x : Nat) : UP (w.setCell ⟨ub, 6, none⟩ (.int .i64 x)) ub s { u with a := x } := by
  obtain ⟨e, f, t⟩ := h.cells_set 6 (.int .i64 x)
  exact ⟨⟨(e 0 (by omega)).trans h.br.c0, (e 1 (by omega)).trans h.br.c1, (e 2 (by omega)).trans h.br.c2, f 1, f 2⟩, (e 3 (by omega)).trans h.c3, (e 4 (by omega)).trans h.c4, (e 5 (by omega)).trans h.c5, World.cell?_setCell_same _ _ _ h.c6, (e 7 (by omega)).trans h.c7, f, t, h.hp⟩
theorem UP.setZ {w : World} {ub : Nat} {s : ByteArray} {u : US} (h : UP w ub s u) (x : Nat) : UP (w.setCell ⟨ub, 7, none⟩ (.int .i64 x)) ub s { u with z := x } := by
  obtain ⟨e, f, t⟩ := h.cells_set 7 (.int .i64 x)
  exact ⟨⟨(e 0 (by omega)).trans h.br.c0, (e 1 (by omega)).trans h.br.c1, (e 2 (by omega)).trans h.br.c2, f 1, f 2⟩, (e 3 (by omega)).trans h.c3, (e 4 (by omega)).trans h.c4, (e 5 (by omega)).trans h.c5, (e 6 (by omega)).trans h.c6, World.cell?_setCell_same _ _ _ h.c7, f, t, h.hp⟩
theorem UP.setSt {w : World} {ub : Nat} {s : ByteArray} {u : US} (h : UP w ub s u) (x : Nat) : UP (w.setCell ⟨ub, 2, none⟩ (.int .i64 x)) ub s { u with st := x } := by
  obtain ⟨e, f, t⟩ := h.cells_set 2 (.int .i64 x)
  exact ⟨⟨(e 0 (by omega)).trans h.br.c0, (e 1 (by omega)).trans h.br.c1, World.cell?_setCell_same _ _ _ h.br.c2, f 1, f 2⟩, (e 3 (by omega)).trans h.c3, (e 4 (by omega)).trans h.c4, (e 5 (by omega)).trans h.c5, (e 6 (by omega)).trans h.c6, (e 7 (by omega)).trans h.c7, f, t, h.hp⟩

/-- A time. -/
def timeU (s : ByteArray) (u : US) : US :=
  let m := mk s 4 u.pos u.st
  let x := tk s m.2.1 m.2.2 (stepWidth m.1)
  { u with pos := x.2.1, st := x.2.2, d := add64 u.d (sub64 x.1 (stepShift m.1)), t := add64 u.t (add64 u.d (sub64 x.1 (stepShift m.1))) }
/-- A new window. -/
def winU (s : ByteArray) (u : US) : US :=
  let x := tk s u.pos u.st 5
  let y := tk s x.2.1 x.2.2 6
  if x.1 + (y.1 + 1) ≤ 64 then { u with pos := y.2.1, st := y.2.2, a := x.1, z := y.1 + 1 } else { u with pos := y.2.1, st := 1, a := 0, z := 0 }
/-- Bits by the window that is there. -/
def inU (s : ByteArray) (u : US) : US :=
  let x := tk s u.pos u.st u.z
  { u with pos := x.2.1, st := x.2.2, b := u.b ^^^ (x.1 * 2 ^ (64 - u.a - u.z)) }
def bitU (s : ByteArray) (u : US) : US :=
  let m := mk s 2 u.pos u.st
  let u1 : US := { u with pos := m.2.1, st := m.2.2 }
  if m.1 = 0 then u1 else if m.1 = 2 then inU s (winU s u1) else inU s u1

theorem stepShift_lt' (k : Nat) : stepShift k ≤ 18446744073709551615 := by unfold stepShift; split <;> omega
/-- 64 bits as a time. -/
def toI (t : Nat) : Int := if t < 9223372036854775808 then (t : Int) else (t : Int) - 18446744073709551616
def samU (u : US) : Int × Nat := (toI u.t, u.b)
/-- The first sample, and the n ones behind it. -/
def firstU (s : ByteArray) : US :=
  let x := tk s 0 0 64
  let y := tk s x.2.1 x.2.2 64
  ⟨y.2.1, y.2.2, x.1, 0, y.1, 0, 0⟩
def stepU (s : ByteArray) (u : US) : US := bitU s (timeU s u)
def seqU (s : ByteArray) (u : US) : Nat → List (Int × Nat) × US
  | 0 => ([samU u], u)
  | n + 1 => ((seqU s u n).1 ++ [samU (stepU s (seqU s u n).2)], stepU s (seqU s u n).2)
theorem seqU_length (s : ByteArray) (u : US) (n : Nat) : (seqU s u n).1.length = n + 1 := by
  induction n with
  | zero => rfl
  | succ n ih => simp [seqU, ih]
end Go.Proofs.YtamcclcbmenjdaaGreatDoor

/- What the readers make of bytes, as functions. -/
namespace Go.Proofs.YtamcclcbmenjdaaGreatDoor

abbrev Rest := ByteArray × Nat
def gone : Rest := (⟨#[]⟩, 1)
/-- n things, one behind the other. -/
def seqTo {α : Type} (f : Rest → α × Rest) (s : Rest) : Nat → List α × Rest
  | 0 => ([], s)
  | n + 1 => ((seqTo f s n).1 ++ [(f (seqTo f s n).2).1], (f (seqTo f s n).2).2)
theorem seqTo_length {α : Type} (f : Rest → α × Rest) (s : Rest) (n : Nat) : (seqTo f s n).1.length = n := by
  induction n with
  | zero => rfl
  | succ n ih => simp [seqTo, ih]
theorem seqTo_inv {α : Type} (f : Rest → α × Rest) (P : Rest → Prop) (hf : ∀ s, P s → P (f s).2) (s : Rest) (h : P s) (n : Nat) : P (seqTo f s n).2 := by
  induction n with
  | zero => exact h
  | succ n ih => exact hf _ ih
theorem seqTo_all {α : Type} (f : Rest → α × Rest) (P : α → Prop) (hf : ∀ s, P (f s).1) (s : Rest) (n : Nat) : ∀ x ∈ (seqTo f s n).1, P x := by
  induction n with
  | zero => intro x hx; cases hx
  | succ n ih =>
    intro x hx
    rcases List.mem_append.1 hx with h | h
    · exact ih x h
    · rw [List.mem_singleton.1 h]; exact hf _

def tofR (texts : List ByteArray) (s : Rest) : ByteArray × Rest :=
  (if (numR s.1 ((texts.length : Int) - 1) s.2).2.2 = 1 then ⟨#[]⟩ else texts.getD (numR s.1 ((texts.length : Int) - 1) s.2).1 ⟨#[]⟩, (numR s.1 ((texts.length : Int) - 1) s.2).2)
def labR (texts : List ByteArray) (s : Rest) : Lab × Rest := (((tofR texts s).1, (tofR texts (tofR texts s).2).1), (tofR texts (tofR texts s).2).2)
def labsR (texts : List ByteArray) (s : Rest) : List Lab × Rest := seqTo (labR texts) (numR s.1 4 s.2).2 (numR s.1 4 s.2).1
/-- The samples of a chunk, n of them, one at least. -/
def chunkR (s : ByteArray) (n : Nat) : List (Int × Nat) × US := seqU s (firstU s) (n - 1)
def samplesR (s : Rest) : List (Int × Nat) × Rest :=
  let c := numR s.1 40 s.2
  let t := textR c.2.1 c.2.1.size c.2.2
  if c.1 = 0 then ([], gone) else if (chunkR t.1 c.1).2.st = 1 then ((chunkR t.1 c.1).1, gone) else ((chunkR t.1 c.1).1, t.2)
def serR (texts : List ByteArray) (s : Rest) : Ser × Rest := (((labsR texts s).1, (samplesR (labsR texts s).2).1), (samplesR (labsR texts s).2).2)
def textsR (s : Rest) : List ByteArray × Rest := seqTo (fun s => textR s.1 16 s.2) (numR s.1 64 s.2).2 (numR s.1 64 s.2).1
/-- A payload: its series, and the state. -/
def payR (s : ByteArray) : List Ser × Rest :=
  let t := textsR (s, 0)
  let c := numR t.2.1 8 t.2.2
  seqTo (serR t.1) c.2 c.1

/-- The rest is no longer than m, its state 0 or 1. -/
def Short (m : Nat) (s : Rest) : Prop := s.1.size ≤ m ∧ s.2 ≤ 1
theorem short_num {m : Nat} {s : Rest} (h : Short m s) (most : Int) : Short m (numR s.1 most s.2).2 := ⟨Nat.le_trans (numR_size _ _ _) h.1, numR_st _ _ _ h.2⟩
theorem short_text {m : Nat} {s : Rest} (h : Short m s) (most : Int) : Short m (textR s.1 most s.2).2 := ⟨Nat.le_trans (textR_size _ _ _) h.1, textR_st _ _ _ h.2⟩
theorem short_gone (m : Nat) : Short m gone := ⟨Nat.zero_le _, Nat.le_refl _⟩
theorem short_tof {m : Nat} {s : Rest} (texts : List ByteArray) (h : Short m s) : Short m (tofR texts s).2 := short_num h _
theorem short_lab {m : Nat} {s : Rest} (texts : List ByteArray) (h : Short m s) : Short m (labR texts s).2 := short_tof texts (short_tof texts h)
theorem short_labs {m : Nat} {s : Rest} (texts : List ByteArray) (h : Short m s) : Short m (labsR texts s).2 := seqTo_inv (labR texts) (Short m) (fun _ h => short_lab texts h) _ (short_num h 4) _
theorem short_samples {m : Nat} {s : Rest} (h : Short m s) : Short m (samplesR s).2 := by
  unfold samplesR
  simp only
  split
  · exact short_gone m
  · split
    · exact short_gone m
    · exact short_text (short_num h _) _
theorem short_ser {m : Nat} {s : Rest} (texts : List ByteArray) (h : Short m s) : Short m (serR texts s).2 := short_samples (short_labs texts h)
theorem short_texts {m : Nat} {s : Rest} (h : Short m s) : Short m (textsR s).2 := seqTo_inv _ (Short m) (fun _ h => short_text h 16) _ (short_num h 64) _
theorem num_nat (s : Rest) (most : Nat) : (numR s.1 (most : Int) s.2).1 ≤ most := by have := numR_le s.1 most s.2 (by omega); omega
end Go.Proofs.YtamcclcbmenjdaaGreatDoor

/- The byte reader: textOf. -/
namespace Go.Proofs.YtamcclcbmenjdaaGreatDoor
open Go.RowKit Go.Lib

theorem Rd.cell {w w' : World} {yb yo k : Nat} (h : Rd w w' yb yo) (hk : k < w.heap.size) (hy : k ≠ yb) (o : Nat) : w'.cell? ⟨k, o, none⟩ = w.cell? ⟨k, o, none⟩ := World.cell?_of_block (a := ⟨k, o, none⟩) (h.block k hk hy)

set_option maxRecDepth 100000 in
set_option maxHeartbeats 400000 in
theorem textOf_any (yb yo tb : Nat) (p : Rest) (tv : Value) (texts : List ByteArray) (w : World) (H : YR w yb yo p.1 p.2) (hs : Short 140737488355328 p) (ht : TextsAt w tv tb texts) (htb : tb ≠ yb) (htw : tb < w.heap.size) (htl : texts.length ≤ 1000) :
    Calls Tryz.prog 133 #[.pointer (some ⟨yb, yo, none⟩), tv] w fun e w' => e = .returned (.string (tofR texts p).1) ∧ YR w' yb yo (tofR texts p).2.1 (tofR texts p).2.2 ∧ Rd w w' yb yo := by
  have C := hide (number_is yb yo p.2 p.1 ((texts.length : Int) - 1) w H hs.1)
  have hok := numR_ok p.1 ((texts.length : Int) - 1) p.2
  have hst := numR_st p.1 ((texts.length : Int) - 1) p.2 hs.2
  obtain ⟨a, c, hv⟩ : ∃ a c, tv = .slice a texts.length c := by
    rcases ht.shape with ⟨rfl, a, c, rfl⟩ | ⟨o, c, rfl, _⟩ <;> exact ⟨_, _, rfl⟩
  have HE : Hid (tofR texts p = (if (numR p.1 ((texts.length : Int) - 1) p.2).2.2 = 1 then ⟨#[]⟩ else texts.getD (numR p.1 ((texts.length : Int) - 1) p.2).1 ⟨#[]⟩, (numR p.1 ((texts.length : Int) - 1) p.2).2)) := rfl
  generalize numR p.1 ((texts.length : Int) - 1) p.2 = r at *
  obtain ⟨n, s1, q⟩ := r
  simp only at C hok hst HE
  have HT := hide ht
  clear H ht hs
  subst hv
  go_enter Tryz.func133, Tryz.ntmps133
  go_wp2_with fail
  refine C.out.mono ?_
  rintro e w1 ⟨rfl, hY, hR⟩
  have c1 := hY.c1
  have HY := hide hY
  have HR := hide hR
  clear hY hR C
  by_cases hq : q = 1
  · subst hq
    clear hok hst
    go_wp2
    go_ret
    rw [HE.out]
    exact ⟨rfl, HY.out, HR.out⟩
  · have hq0 : q = 0 := by omega
    subst hq0
    have hn := hok (by omega)
    have hlt : n < texts.length := by omega
    obtain ⟨x, hx⟩ : ∃ x, texts[n]? = some x := ⟨_, List.getElem?_eq_getElem hlt⟩
    have hc : ∃ o, a = some ⟨tb, o, none⟩ ∧ w.cell? ⟨tb, o + n, none⟩ = some (.string x) := by
      rcases HT.out.shape with ⟨h0, _⟩ | ⟨o, c', hv, hcell⟩
      · rw [h0] at hx; cases hx
      · cases hv; exact ⟨o, rfl, hcell n x hx⟩
    obtain ⟨o, rfl, hc⟩ := hc
    have m1 := (HR.out.cell htw htb (o + n)).trans hc
    have HG : Hid (texts.getD n ⟨#[]⟩ = x) := by show _ = _; rw [List.getD_eq_getElem?_getD, hx]; rfl
    clear hc hx hn hok hst hq
    go_wp2
    go_ret
    rw [HE.out, if_neg (by decide), HG.out]
    exact ⟨rfl, HY.out, HR.out⟩
end Go.Proofs.YtamcclcbmenjdaaGreatDoor

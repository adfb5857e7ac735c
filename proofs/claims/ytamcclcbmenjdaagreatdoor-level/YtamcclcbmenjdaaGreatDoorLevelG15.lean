/- 'choirkeep.Level', for any list of steps (100 of them are done): when all are up, nothing is under way, and each has told each other one, all have the same, and compacted logs are the same bytes. The first form's statement and its card: no condition beside the row's own. -/
import Derived.Test.YtamcclcbmenjdaaGreatDoorLevelG14
import Derived.Deep.DeepAppendRoom
import Derived.OwnWalk
/- The unpacker: what it keeps, and its steps as functions. -/
namespace Go.Proofs.YtamcclcbmenjdaaGreatDoor
open Go.RowKit Go.Lib

/-- Where an unpacker is: the bit, the state, the last time, step and bits, the window. -/
structure US where
  pos : Nat
  st : Nat
  t : Nat
  d : Nat
  b : Nat
  a : Nat
  z : Nat

/-- Numbers within their bounds. -/
structure UOk (s : ByteArray) (u : US) : Prop where
  ht : u.t ≤ 18446744073709551615
  hd : u.d ≤ 18446744073709551615
  hb : u.b ≤ 18446744073709551615
  haz : u.a + u.z ≤ 64
  hpos : u.pos ≤ 8 * s.size

/-- An unpacker in block ub. -/
structure UP (w : World) (ub : Nat) (s : ByteArray) (u : US) : Prop where
  br : BR w ub 0 s u.pos u.st
  c3 : w.cell? ⟨ub, 3, none⟩ = some (.int .u64 u.t)
  c4 : w.cell? ⟨ub, 4, none⟩ = some (.int .u64 u.d)
  c5 : w.cell? ⟨ub, 5, none⟩ = some (.int .u64 u.b)
  c6 : w.cell? ⟨ub, 6, none⟩ = some (.int .i64 u.a)
  c7 : w.cell? ⟨ub, 7, none⟩ = some (.int .i64 u.z)
  fr : ∀ o, w.frozen? ⟨ub, o, none⟩ = false
  tabs : Tabs w
  hp : 3 ≤ ub

theorem Rd.of_read {w w' : World} {rb ro : Nat} (h : Read w w' rb ro) : Rd w w' rb ro := ⟨h.os, h.tape, h.output, Nat.le_of_eq h.size, fun k _ hk => h.block k hk⟩
theorem UP.read {w w' : World} {ub : Nat} {s : ByteArray} {u : US} (h : UP w ub s u) {p q : Nat} (hb : BR w' ub 0 s p q) (hr : Read w w' ub 0) : UP w' ub s { u with pos := p, st := q } := by
  have hp := h.hp
  exact ⟨hb, (hr.cells 3 (by omega) (by omega)).trans h.c3, (hr.cells 4 (by omega) (by omega)).trans h.c4, (hr.cells 5 (by omega) (by omega)).trans h.c5, (hr.cells 6 (by omega) (by omega)).trans h.c6, (hr.cells 7 (by omega) (by omega)).trans h.c7,
    fun o => (hr.frozen o).trans (h.fr o), h.tabs.kept (hr.block _ (by omega)) (hr.block _ (by omega)), hp⟩
theorem UP.lt {w : World} {ub : Nat} {s : ByteArray} {u : US} (h : UP w ub s u) : ub < w.heap.size := World.block_lt_of_cell? w _ h.c3
/-- Where new blocks are made, and draws. -/
theorem UP.kept {w w' : World} {ub : Nat} {s : ByteArray} {u : US} (h : UP w ub s u) (hk : ∀ k, k < w.heap.size → w'.heap[k]? = w.heap[k]?) : UP w' ub s u := by
  have hb := hk ub h.lt
  have e : ∀ o, w'.cell? ⟨ub, o, none⟩ = w.cell? ⟨ub, o, none⟩ := fun o => World.cell?_of_block (a := ⟨ub, o, none⟩) hb
  have f : ∀ o, w'.frozen? ⟨ub, o, none⟩ = w.frozen? ⟨ub, o, none⟩ := fun o => World.frozen?_of_block (a := ⟨ub, o, none⟩) hb
  have hp := h.hp
  have hl := h.lt
  exact ⟨⟨(e 0).trans h.br.c0, (e 1).trans h.br.c1, (e 2).trans h.br.c2, (f 1).trans h.br.f1, (f 2).trans h.br.f2⟩, (e 3).trans h.c3, (e 4).trans h.c4, (e 5).trans h.c5, (e 6).trans h.c6, (e 7).trans h.c7,
    fun o => (f o).trans (h.fr o), h.tabs.kept (hk _ (by omega)) (hk _ (by omega)), hp⟩
theorem UP.alloc {w : World} {ub : Nat} {s : ByteArray} {u : US} (h : UP w ub s u) (ob : Obj) : UP (w.alloc ob) ub s u := h.kept fun _ hk => heap_alloc_old w ob hk
theorem UP.drewN {w : World} {ub : Nat} {s : ByteArray} {u : US} (h : UP w ub s u) (q : Nat) : UP (w.drewN q) ub s u := h.kept fun _ _ => rfl
theorem UP.drew {w : World} {ub : Nat} {s : ByteArray} {u : US} (h : UP w ub s u) : UP w.drew ub s u := h.kept fun _ _ => rfl

/-- A store into one cell of the unpacker. -/
theorem UP.cells_set {w : World} {ub : Nat} {s : ByteArray} {u : US} (h : UP w ub s u) (o : Nat) (x : Value) :
    (∀ i, i ≠ o → (w.setCell ⟨ub, o, none⟩ x).cell? ⟨ub, i, none⟩ = w.cell? ⟨ub, i, none⟩) ∧ (∀ i, (w.setCell ⟨ub, o, none⟩ x).frozen? ⟨ub, i, none⟩ = false) ∧ Tabs (w.setCell ⟨ub, o, none⟩ x) := by
  have hp := h.hp
  exact ⟨fun i hi => World.cell?_setCell_other _ _ _ _ (fun e => hi (congrArg Addr.off e).symm), fun i => by rw [World.frozen?_setCell]; exact h.fr i,
    h.tabs.below ((Below.refl ub w).setCell (p := ⟨ub, o, none⟩) (Nat.le_refl ub) x) hp⟩
theorem UP.setD {w : World} {ub : Nat} {s : ByteArray} {u : US} (h : UP w ub s u) (x : Nat) : UP (w.setCell ⟨ub, 4, none⟩ (.int .u64 x)) ub s { u with d := x } := by
  obtain ⟨e, f, t⟩ := h.cells_set 4 (.int .u64 x)
  exact ⟨⟨(e 0 (by omega)).trans h.br.c0, (e 1 (by omega)).trans h.br.c1, (e 2 (by omega)).trans h.br.c2, f 1, f 2⟩, (e 3 (by omega)).trans h.c3, World.cell?_setCell_same _ _ _ h.c4, (e 5 (by omega)).trans h.c5, (e 6 (by omega)).trans h.c6, (e 7 (by omega)).trans h.c7, f, t, h.hp⟩
theorem UP.setT {w : World} {ub : Nat} {s : ByteArray} {u : US} (h : UP w ub s u) (x : Nat) : UP (w.setCell ⟨ub, 3, none⟩ (.int .u64 x)) ub s { u with t := x } := by
  obtain ⟨e, f, t⟩ := h.cells_set 3 (.int .u64 x)
  exact ⟨⟨(e 0 (by omega)).trans h.br.c0, (e 1 (by omega)).trans h.br.c1, (e 2 (by omega)).trans h.br.c2, f 1, f 2⟩, World.cell?_setCell_same _ _ _ h.c3, (e 4 (by omega)).trans h.c4, (e 5 (by omega)).trans h.c5, (e 6 (by omega)).trans h.c6, (e 7 (by omega)).trans h.c7, f, t, h.hp⟩
theorem UP.setB {w : World} {ub : Nat} {s : ByteArray} {u : US} (h : UP w ub s u) (x : Nat) : UP (w.setCell ⟨ub, 5, none⟩ (.int .u64 x)) ub s { u with b := x } := by
  obtain ⟨e, f, t⟩ := h.cells_set 5 (.int .u64 x)
  exact ⟨⟨(e 0 (by omega)).trans h.br.c0, (e 1 (by omega)).trans h.br.c1, (e 2 (by omega)).trans h.br.c2, f 1, f 2⟩, (e 3 (by omega)).trans h.c3, (e 4 (by omega)).trans h.c4, World.cell?_setCell_same _ _ _ h.c5, (e 6 (by omega)).trans h.c6, (e 7 (by omega)).trans h.c7, f, t, h.hp⟩
theorem UP.setA {w : World} {ub : Nat} {s : ByteArray} {u : US} (h : UP w ub s u) (x : Nat) : UP (w.setCell ⟨ub, 6, none⟩ (.int .i64 x)) ub s { u with a := x } := by
  obtain ⟨e, f, t⟩ := h.cells_set 6 (.int .i64 x)
  exact ⟨⟨(e 0 (by omega)).trans h.br.c0, (e 1 (by omega)).trans h.br.c1, (e 2 (by omega)).trans h.br.c2, f 1, f 2⟩, (e 3 (by omega)).trans h.c3, (e 4 (by omega)).trans h.c4, (e 5 (by omega)).trans h.c5, World.cell?_setCell_same _ _ _ h.c6, (e 7 (by omega)).trans h.c7, f, t, h.hp⟩
theorem UP.setZ {w : World} {ub : Nat} {s : ByteArray} {u : US} (h : UP w ub s u) (x : Nat) : UP (w.setCell ⟨ub, 7, none⟩ (.int .i64 x)) ub s { u with z := x } := by
  obtain ⟨e, f, t⟩ := h.cells_set 7 (.int .i64 x)
  exact ⟨⟨(e 0 (by omega)).trans h.br.c0, (e 1 (by omega)).trans h.br.c1, (e 2 (by omega)).trans h.br.c2, f 1, f 2⟩, (e 3 (by omega)).trans h.c3, (e 4 (by omega)).trans h.c4, (e 5 (by omega)).trans h.c5, (e 6 (by omega)).trans h.c6, World.cell?_setCell_same _ _ _ h.c7, f, t, h.hp⟩
theorem UP.setSt {w : World} {ub : Nat} {s : ByteArray} {u : US} (h : UP w ub s u) (x : Nat) : UP (w.setCell ⟨ub, 2, none⟩ (.int .i64 x)) ub s { u with st := x } := by
  obtain ⟨e, f, t⟩ := h.cells_set 2 (.int .i64 x)
  exact ⟨⟨(e 0 (by omega)).trans h.br.c0, (e 1 (by omega)).trans h.br.c1, World.cell?_setCell_same _ _ _ h.br.c2, f 1, f 2⟩, (e 3 (by omega)).trans h.c3, (e 4 (by omega)).trans h.c4, (e 5 (by omega)).trans h.c5, (e 6 (by omega)).trans h.c6, (e 7 (by omega)).trans h.c7, f, t, h.hp⟩

/-- A time. -/
def timeU (s : ByteArray) (u : US) : US :=
  let m := mk s 4 u.pos u.st
  let x := tk s m.2.1 m.2.2 (stepWidth m.1)
  { u with pos := x.2.1, st := x.2.2, d := add64 u.d (sub64 x.1 (stepShift m.1)), t := add64 u.t (add64 u.d (sub64 x.1 (stepShift m.1))) }
/-- A new window. -/
def winU (s : ByteArray) (u : US) : US :=
  let x := tk s u.pos u.st 5
  let y := tk s x.2.1 x.2.2 6
  if x.1 + (y.1 + 1) ≤ 64 then { u with pos := y.2.1, st := y.2.2, a := x.1, z := y.1 + 1 } else { u with pos := y.2.1, st := 1, a := 0, z := 0 }
/-- Bits by the window that is there. -/
def inU (s : ByteArray) (u : US) : US :=
  let x := tk s u.pos u.st u.z
  { u with pos := x.2.1, st := x.2.2, b := u.b ^^^ (x.1 * 2 ^ (64 - u.a - u.z)) }
def bitU (s : ByteArray) (u : US) : US :=
  let m := mk s 2 u.pos u.st
  let u1 : US := { u with pos := m.2.1, st := m.2.2 }
  if m.1 = 0 then u1 else if m.1 = 2 then inU s (winU s u1) else inU s u1

theorem stepShift_lt' (k : Nat) : stepShift k ≤ 18446744073709551615 := by unfold stepShift; split <;> omega
/-- 64 bits as a time. -/
def toI (t : Nat) : Int := if t < 9223372036854775808 then (t : Int) else (t : Int) - 18446744073709551616
def samU (u : US) : Int × Nat := (toI u.t, u.b)
/-- The first sample, and the n ones behind it. -/
def firstU (s : ByteArray) : US :=
  let x := tk s 0 0 64
  let y := tk s x.2.1 x.2.2 64
  ⟨y.2.1, y.2.2, x.1, 0, y.1, 0, 0⟩
def stepU (s : ByteArray) (u : US) : US := bitU s (timeU s u)
def seqU (s : ByteArray) (u : US) : Nat → List (Int × Nat) × US
  | 0 => ([samU u], u)
  | n + 1 => ((seqU s u n).1 ++ [samU (stepU s (seqU s u n).2)], stepU s (seqU s u n).2)
theorem seqU_length (s : ByteArray) (u : US) (n : Nat) : (seqU s u n).1.length = n + 1 := by
  induction n with
  | zero => rfl
  | succ n ih => simp [seqU, ih]
end Go.Proofs.YtamcclcbmenjdaaGreatDoor

/- What the readers make of bytes, as functions. -/
namespace Go.Proofs.YtamcclcbmenjdaaGreatDoor

abbrev Rest := ByteArray × Nat
def gone : Rest := (⟨#[]⟩, 1)
/-- n things, one behind the other. -/
def seqTo {α : Type} (f : Rest → α × Rest) (s : Rest) : Nat → List α × Rest
  | 0 => ([], s)
  | n + 1 => ((seqTo f s n).1 ++ [(f (seqTo f s n).2).1], (f (seqTo f s n).2).2)
theorem seqTo_length {α : Type} (f : Rest → α × Rest) (s : Rest) (n : Nat) : (seqTo f s n).1.length = n := by
  induction n with
  | zero => rfl
  | succ n ih => simp [seqTo, ih]
theorem seqTo_inv {α : Type} (f : Rest → α × Rest) (P : Rest → Prop) (hf : ∀ s, P s → P (f s).2) (s : Rest) (h : P s) (n : Nat) : P (seqTo f s n).2 := by
  induction n with
  | zero => exact h
  | succ n ih => exact hf _ ih
theorem seqTo_all {α : Type} (f : Rest → α × Rest) (P : α → Prop) (hf : ∀ s, P (f s).1) (s : Rest) (n : Nat) : ∀ x ∈ (seqTo f s n).1, P x := by
  induction n with
  | zero => intro x hx; cases hx
  | succ n ih =>
    intro x hx
    rcases List.mem_append.1 hx with h | h
    · exact ih x h
    · rw [List.mem_singleton.1 h]; exact hf _

def tofR (texts : List ByteArray) (s : Rest) : ByteArray × Rest :=
  (if (numR s.1 ((texts.length : Int) - 1) s.2).2.2 = 1 then ⟨#[]⟩ else texts.getD (numR s.1 ((texts.length : Int) - 1) s.2).1 ⟨#[]⟩, (numR s.1 ((texts.length : Int) - 1) s.2).2)
def labR (texts : List ByteArray) (s : Rest) : Lab × Rest := (((tofR texts s).1, (tofR texts (tofR texts s).2).1), (tofR texts (tofR texts s).2).2)
def labsR (texts : List ByteArray) (s : Rest) : List Lab × Rest := seqTo (labR texts) (numR s.1 4 s.2).2 (numR s.1 4 s.2).1
/-- The samples of a chunk, n of them, one at least. -/
def chunkR (s : ByteArray) (n : Nat) : List (Int × Nat) × US := seqU s (firstU s) (n - 1)
def samplesR (s : Rest) : List (Int × Nat) × Rest :=
  let c := numR s.1 40 s.2
  let t := textR c.2.1 c.2.1.size c.2.2
  if c.1 = 0 then ([], gone) else if (chunkR t.1 c.1).2.st = 1 then ((chunkR t.1 c.1).1, gone) else ((chunkR t.1 c.1).1, t.2)
def serR (texts : List ByteArray) (s : Rest) : Ser × Rest := (((labsR texts s).1, (samplesR (labsR texts s).2).1), (samplesR (labsR texts s).2).2)
def textsR (s : Rest) : List ByteArray × Rest := seqTo (fun s => textR s.1 16 s.2) (numR s.1 64 s.2).2 (numR s.1 64 s.2).1
/-- A payload: its series, and the state. -/
def payR (s : ByteArray) : List Ser × Rest :=
  let t := textsR (s, 0)
  let c := numR t.2.1 8 t.2.2
  seqTo (serR t.1) c.2 c.1

/-- The rest is no longer than m, its state 0 or 1. -/
def Short (m : Nat) (s : Rest) : Prop := s.1.size ≤ m ∧ s.2 ≤ 1
theorem short_num {m : Nat} {s : Rest} (h : Short m s) (most : Int) : Short m (numR s.1 most s.2).2 := ⟨Nat.le_trans (numR_size _ _ _) h.1, numR_st _ _ _ h.2⟩
theorem short_text {m : Nat} {s : Rest} (h : Short m s) (most : Int) : Short m (textR s.1 most s.2).2 := ⟨Nat.le_trans (textR_size _ _ _) h.1, textR_st _ _ _ h.2⟩
theorem short_gone (m : Nat) : Short m gone := ⟨Nat.zero_le _, Nat.le_refl _⟩
theorem short_tof {m : Nat} {s : Rest} (texts : List ByteArray) (h : Short m s) : Short m (tofR texts s).2 := short_num h _
theorem short_lab {m : Nat} {s : Rest} (texts : List ByteArray) (h : Short m s) : Short m (labR texts s).2 := short_tof texts (short_tof texts h)
theorem short_labs {m : Nat} {s : Rest} (texts : List ByteArray) (h : Short m s) : Short m (labsR texts s).2 := seqTo_inv (labR texts) (Short m) (fun _ h => short_lab texts h) _ (short_num h 4) _
theorem short_samples {m : Nat} {s : Rest} (h : Short m s) : Short m (samplesR s).2 := by
  unfold samplesR
  simp only
  split
  · exact short_gone m
  · split
    · exact short_gone m
    · exact short_text (short_num h _) _
theorem short_ser {m : Nat} {s : Rest} (texts : List ByteArray) (h : Short m s) : Short m (serR texts s).2 := short_samples (short_labs texts h)
theorem short_texts {m : Nat} {s : Rest} (h : Short m s) : Short m (textsR s).2 := seqTo_inv _ (Short m) (fun _ h => short_text h 16) _ (short_num h 64) _
theorem num_nat (s : Rest) (most : Nat) : (numR s.1 (most : Int) s.2).1 ≤ most := by have := numR_le s.1 most s.2 (by omega); omega
end Go.Proofs.YtamcclcbmenjdaaGreatDoor

/- The byte reader: textOf. -/
namespace Go.Proofs.YtamcclcbmenjdaaGreatDoor
open Go.RowKit Go.Lib

theorem Rd.cell {w w' : World} {yb yo k : Nat} (h : Rd w w' yb yo) (hk : k < w.heap.size) (hy : k ≠ yb) (o : Nat) : w'.cell? ⟨k, o, none⟩ = w.cell? ⟨k, o, none⟩ := World.cell?_of_block (a := ⟨k, o, none⟩) (h.block k hk hy)

set_option maxRecDepth 100000 in
set_option maxHeartbeats 400000 in
theorem textOf_any (yb yo tb : Nat) (p : Rest) (tv : Value) (texts : List ByteArray) (w : World) (H : YR w yb yo p.1 p.2) (hs : Short 140737488355328 p) (ht : TextsAt w tv tb texts) (htb : tb ≠ yb) (htw : tb < w.heap.size) (htl : texts.length ≤ 1000) :
    Calls Tryz.prog 133 #[.pointer (some ⟨yb, yo, none⟩), tv] w fun e w' => e = .returned (.string (tofR texts p).1) ∧ YR w' yb yo (tofR texts p).2.1 (tofR texts p).2.2 ∧ Rd w w' yb yo := by
  have C := hide (number_is yb yo p.2 p.1 ((texts.length : Int) - 1) w H hs.1)
  have hok := numR_ok p.1 ((texts.length : Int) - 1) p.2
  have hst := numR_st p.1 ((texts.length : Int) - 1) p.2 hs.2
  obtain ⟨a, c, hv⟩ : ∃ a c, tv = .slice a texts.length c := by
    rcases ht.shape with ⟨rfl, a, c, rfl⟩ | ⟨o, c, rfl, _⟩ <;> exact ⟨_, _, rfl⟩
  have HE : Hid (tofR texts p = (if (numR p.1 ((texts.length : Int) - 1) p.2).2.2 = 1 then ⟨#[]⟩ else texts.getD (numR p.1 ((texts.length : Int) - 1) p.2).1 ⟨#[]⟩, (numR p.1 ((texts.length : Int) - 1) p.2).2)) := rfl
  generalize numR p.1 ((texts.length : Int) - 1) p.2 = r at *
  obtain ⟨n, s1, q⟩ := r
  simp only at C hok hst HE
  have HT := hide ht
  clear H ht hs
  subst hv
  go_enter Tryz.func133, Tryz.ntmps133
  go_wp2_with fail
  refine C.out.mono ?_
  rintro e w1 ⟨rfl, hY, hR⟩
  have c1 := hY.c1
  have HY := hide hY
  have HR := hide hR
  clear hY hR C
  by_cases hq : q = 1
  · subst hq
    clear hok hst
    go_wp2
    go_ret
    rw [HE.out]
    exact ⟨rfl, HY.out, HR.out⟩
  · have hq0 : q = 0 := by omega
    subst hq0
    have hn := hok (by omega)
    have hlt : n < texts.length := by omega
    obtain ⟨x, hx⟩ : ∃ x, texts[n]? = some x := ⟨_, List.getElem?_eq_getElem hlt⟩
    have hc : ∃ o, a = some ⟨tb, o, none⟩ ∧ w.cell? ⟨tb, o + n, none⟩ = some (.string x) := by
      rcases HT.out.shape with ⟨h0, _⟩ | ⟨o, c', hv, hcell⟩
      · rw [h0] at hx; cases hx
      · cases hv; exact ⟨o, rfl, hcell n x hx⟩
    obtain ⟨o, rfl, hc⟩ := hc
    have m1 := (HR.out.cell htw htb (o + n)).trans hc
    have HG : Hid (texts.getD n ⟨#[]⟩ = x) := by show _ = _; rw [List.getD_eq_getElem?_getD, hx]; rfl
    clear hc hx hn hok hst hq
    go_wp2
    go_ret
    rw [HE.out, if_neg (by decide), HG.out]
    exact ⟨rfl, HY.out, HR.out⟩
end Go.Proofs.YtamcclcbmenjdaaGreatDoor

/- The byte reader: labels, texts. -/
namespace Go.Proofs.YtamcclcbmenjdaaGreatDoor
open Go.RowKit Go.Lib

theorem own_rd {base e size n yb yo : Nat} {w w' : World} {v : Value} {xs : List Value} (h : w.ownsRow base e size v n xs) (hr : Rd w w' yb yo) (hy : yb < base) : w'.ownsRow base e size v n xs :=
  own_kept h fun k hk => by have := World.ownsRow.lt h k hk; exact hr.block k this.2 (by omega)
theorem Rd.grown {w w1 w2 : World} {yb yo : Nat} {r : Option Nat} (h : Rd w w1 yb yo) (k : w1.grownBy w2 r) (hr : ∀ b, r = some b → w.heap.size ≤ b) : Rd w w2 yb yo :=
  ⟨k.os.trans h.os, k.tape.trans h.tape, k.output.trans h.output, Nat.le_trans h.size k.size, fun i hi hy => (k.block i (Nat.lt_of_lt_of_le hi h.size) (fun e => by have := hr i e.symm; omega)).trans (h.block i hi hy)⟩
theorem Rd.alloc {w w1 : World} {yb yo : Nat} (h : Rd w w1 yb yo) (ob : Obj) : Rd w (w1.alloc ob) yb yo :=
  ⟨h.os, h.tape, h.output, Nat.le_trans h.size (by simp), fun i hi hy => (heap_alloc_old w1 ob (Nat.lt_of_lt_of_le hi h.size)).trans (h.block i hi hy)⟩
theorem Rd.below {w w1 w2 : World} {yb yo : Nat} (h : Rd w w1 yb yo) (k : Below w1.heap.size w1 w2) : Rd w w2 yb yo :=
  ⟨k.os.trans h.os, k.tape.trans h.tape, k.output.trans h.output, Nat.le_trans h.size k.size, fun i hi hy => (k.block i (Nat.lt_of_lt_of_le hi h.size)).trans (h.block i hi hy)⟩
theorem YR.kept {w w' : World} {yb yo st : Nat} {s : ByteArray} (h : YR w yb yo s st) (hk : w'.heap[yb]? = w.heap[yb]?) : YR w' yb yo s st :=
  ⟨(World.cell?_of_block (a := ⟨yb, yo, none⟩) hk).trans h.c0, (World.cell?_of_block (a := ⟨yb, yo + 1, none⟩) hk).trans h.c1, (World.frozen?_of_block (a := ⟨yb, yo, none⟩) hk).trans h.f0, (World.frozen?_of_block (a := ⟨yb, yo + 1, none⟩) hk).trans h.f1⟩
theorem YR.lt {w : World} {yb yo st : Nat} {s : ByteArray} (h : YR w yb yo s st) : yb < w.heap.size := World.block_lt_of_cell? w _ h.c0
theorem YR.alloc {w : World} {yb yo st : Nat} {s : ByteArray} (h : YR w yb yo s st) (ob : Obj) : YR (w.alloc ob) yb yo s st := h.kept (heap_alloc_old w ob h.lt)
theorem YR.grown {w w' : World} {yb yo st : Nat} {s : ByteArray} {r : Option Nat} (h : YR w yb yo s st) (k : w.grownBy w' r) (hr : some yb ≠ r) : YR w' yb yo s st := h.kept (k.block yb h.lt hr)

set_option maxRecDepth 100000 in
set_option maxHeartbeats 400000 in
theorem labels_any (yb yo tb : Nat) (p : Rest) (tv : Value) (texts : List ByteArray) (w : World) (H : YR w yb yo p.1 p.2) (hs : Short 140737488355328 p) (ht : TextsAt w tv tb texts) (htb : tb ≠ yb) (htw : tb < w.heap.size) (htl : texts.length ≤ 1000) :
    Calls Tryz.prog 108 #[.pointer (some ⟨yb, yo, none⟩), tv] w fun e w' => ∃ v, e = .returned v ∧ w'.ownsRow w.heap.size 80 2 v (labsR texts p).1.length (labCells (labsR texts p).1) ∧
      YR w' yb yo (labsR texts p).2.1 (labsR texts p).2.2 ∧ Rd w w' yb yo := by
  obtain ⟨i0, hi, hz0, hz1, hz2⟩ := info_parts Tryz.infoLab
  have hyw := H.lt
  have C := hide (number_is yb yo p.2 p.1 4 w H hs.1)
  have hn4 := num_nat p 4
  have hs1 := short_num hs 4
  have HE : Hid (labsR texts p = seqTo (labR texts) (numR p.1 4 p.2).2 (numR p.1 4 p.2).1) := rfl
  have hn4' : (numR p.1 4 p.2).1 ≤ 4 := hn4
  generalize numR p.1 4 p.2 = r at *
  obtain ⟨n, p1⟩ := r
  simp only at C hn4' hs1 HE
  have HT := hide ht
  have HSh := hide hs1
  obtain ⟨ta, tc, hv⟩ : ∃ a c, tv = .slice a texts.length c := by
    rcases ht.shape with ⟨rfl, a, c, rfl⟩ | ⟨o, c, rfl, _⟩ <;> exact ⟨_, _, rfl⟩
  clear H ht hs hs1 hn4
  subst hv
  go_enter Tryz.func108, Tryz.ntmps108
  go_wp2_with fail
  refine C.out.mono ?_
  rintro e w1 ⟨rfl, hY, hR⟩
  have HY := hide hY
  have HR := hide hR
  have hsz := hR.size
  clear hY hR C
  go_wp2_with (first | (at_make; refine wpList_make_own _ rfl _ _ 36 rfl w.heap.size 80 i0 _ 2 Tryz.underlying36 hi hz0 hz1 .i64 .i64 _ n rfl rfl rfl (by rw [hz2]; omega) (by unfold maxLen; omega) hsz ?_; intro w2 hown2 hgrow2))
  have HY2 := hide (HY.out.grown hgrow2 (by simp))
  have HR2 := hide (HR.out.grown hgrow2 (by simp))
  have HO2 := hide hown2
  clear hown2 hgrow2 HY HR
  go_wp2
  go_loopw [6, 7, 13] (fun o _ i wr => ∃ k : Nat, k ≤ n ∧ i = .int .i64 k ∧ o = .slice (some ⟨w1.heap.size, 0, none⟩) k n ∧ wr.ownsRow w.heap.size 80 2 (.slice (some ⟨w1.heap.size, 0, none⟩) k n) k (labCells (seqTo (labR texts) p1 k).1) ∧
      YR wr yb yo (seqTo (labR texts) p1 k).2.1 (seqTo (labR texts) p1 k).2.2 ∧ Rd w wr yb yo) (fun _ _ i _ => n - (intOf i).toNat)
  case atStart => exact ⟨0, Nat.zero_le _, rfl, rfl, HO2.out, HY2.out, HR2.out⟩
  case round =>
    obtain ⟨k, hk, rfl, rfl, hO, hY, hR⟩ := hrel
    have HO := hide hO
    have HR := hide hR
    by_cases hlt : k < n
    · have hS := seqTo_inv (labR texts) (Short 140737488355328) (fun _ => short_lab texts) p1 HSh.out k
      have hT1 := HT.out.kept (hR.block tb htw htb)
      have hsz1 := hR.size
      have C1 := hide (textOf_any yb yo tb (seqTo (labR texts) p1 k).2 _ texts wr hY hS hT1 htb (by omega) htl)
      have hS2 := short_tof texts hS
      have HX : Hid ((seqTo (labR texts) p1 (k + 1)).1 = (seqTo (labR texts) p1 k).1 ++ [((tofR texts (seqTo (labR texts) p1 k).2).1, (tofR texts (tofR texts (seqTo (labR texts) p1 k).2).2).1)]) := rfl
      have HX2 : Hid ((seqTo (labR texts) p1 (k + 1)).2 = (tofR texts (tofR texts (seqTo (labR texts) p1 k).2).2).2) := rfl
      generalize (seqTo (labR texts) p1 k).2 = q at *
      generalize (seqTo (labR texts) p1 k).1 = done at *
      generalize tofR texts q = a1 at *
      obtain ⟨x1, q1⟩ := a1
      simp only at C1 hS2 HX HX2
      clear hO hY hR hS hT1 HY2 HR2 HO2
      go_wp2_with fail
      refine C1.out.mono ?_
      rintro e w3 ⟨rfl, hY3, hR3⟩
      have hR3' := HR.out.trans hR3
      have hT3 := HT.out.kept (hR3'.block tb htw htb)
      have hsz3 := hR3'.size
      have C2 := hide (textOf_any yb yo tb q1 _ texts w3 hY3 hS2 hT3 htb (by omega) htl)
      generalize tofR texts q1 = a2 at *
      obtain ⟨x2, q2⟩ := a2
      simp only at C2 HX HX2
      have HO3 := hide (own_rd HO.out hR3 hyw)
      have HR3 := hide hR3'
      clear hY3 hR3 hR3' hT3 C1 HO HR
      go_wp2_with fail
      refine C2.out.mono ?_
      rintro e w4 ⟨rfl, hY4, hR4⟩
      have HO4 := hide (own_rd HO3.out hR4 hyw)
      have HR4 := hide (HR3.out.trans hR4)
      have HY4 := hide hY4
      have hsz4 := HR4.out.size
      clear hY4 hR4 C2 HO3 HR3
      go_wp2_with (first | (at_builtin; refine wpList_append_own_spare _ rfl (.tmp 18) (.tmp 24) 36 rfl w.heap.size 80 i0 2 Tryz.underlying36 hi hz1 w1.heap.size k n _ rfl (own_alloc HO4.out _) ⟨w4.heap.size, 0, none⟩ 1 1 [.string x1, .string x2] rfl rfl (cells_new _ _ _) (one_two rfl rfl) (by omega) ?_))
      intro w5 hown5 hgrow5
      have hylt : some yb ≠ some w1.heap.size := fun e => by have := Option.some.inj e; omega
      have HO5 : Hid (w5.ownsRow w.heap.size 80 2 (.slice (some ⟨w1.heap.size, 0, none⟩) (k + 1) n) (k + 1) (labCells (seqTo (labR texts) p1 (k + 1)).1)) := by
        rw [HX.out, labCells_snoc]; exact hown5
      have HY5 : Hid (YR w5 yb yo (seqTo (labR texts) p1 (k + 1)).2.1 (seqTo (labR texts) p1 (k + 1)).2.2) := by
        rw [HX2.out]; exact (HY4.out.alloc _).grown hgrow5 hylt
      have HR5 := hide ((HR4.out.alloc (.cells #[.string x1, .string x2] 80)).grown hgrow5 (fun b e => by have := Option.some.inj e; omega))
      clear hown5 hgrow5 HO4 HY4 HR4 HX HX2
      go_wp2
      go_roundw
      case rel => exact ⟨k + 1, by omega, by go_num, rfl, HO5.out, HY5.out, HR5.out⟩
      case measure => simp [intOf]; omega
    · have hke : k = n := by omega
      subst hke
      have HY := hide hY
      clear hO hY hR
      go_wp2
      go_ret
      rw [HE.out]
      exact ⟨_, rfl, by rw [seqTo_length]; exact HO.out, HY.out, HR.out⟩
end Go.Proofs.YtamcclcbmenjdaaGreatDoor

/- The unpacker: sample, takeWindow. -/
namespace Go.Proofs.YtamcclcbmenjdaaGreatDoor
open Go.RowKit Go.Lib

theorem wrap_toI (t : Nat) (h : t ≤ 18446744073709551615) : IntKind.i64.wrap (t : Int) = toI t := by
  rw [IntKind.wrap_i64, toI]; split <;> omega

set_option maxRecDepth 100000 in
set_option maxHeartbeats 400000 in
theorem sample_any (ub : Nat) (s : ByteArray) (u : US) (w : World) (H : UP w ub s u) (ht : u.t ≤ 18446744073709551615) :
    Calls Tryz.prog 150 #[.pointer (some ⟨ub, 0, none⟩)] w fun e w' => e = .returned (.agg #[.int .i64 (toI u.t), .int .u64 u.b]) ∧ Below w.heap.size w w' := by
  have c3 := H.c3
  have c5 := H.c5
  have hub := H.lt
  have hw := wrap_toI u.t ht
  clear H ht
  generalize u.t = t at *
  generalize u.b = b at *
  go_enter Tryz.func150, Tryz.ntmps150
  go_wp2
  go_region
  go_wp2
  exact bodyPost_ret (v := .agg #[.int .i64 (toI t), .int .u64 b]) (by simp [results, Tryz.results150, go_sem]) rfl ⟨rfl, ((Below.refl _ _).alloc (Nat.le_refl _) _).drew⟩

/-- Where the unpacker's block, and those ahead of it, are as they were. -/
theorem UP.low {w w' : World} {ub : Nat} {s : ByteArray} {u : US} (h : UP w ub s u) (hk : ∀ k, k ≤ ub → w'.heap[k]? = w.heap[k]?) : UP w' ub s u := by
  have hb := hk ub (Nat.le_refl _)
  have e : ∀ o, w'.cell? ⟨ub, o, none⟩ = w.cell? ⟨ub, o, none⟩ := fun o => World.cell?_of_block (a := ⟨ub, o, none⟩) hb
  have f : ∀ o, w'.frozen? ⟨ub, o, none⟩ = w.frozen? ⟨ub, o, none⟩ := fun o => World.frozen?_of_block (a := ⟨ub, o, none⟩) hb
  have hp := h.hp
  exact ⟨⟨(e 0).trans h.br.c0, (e 1).trans h.br.c1, (e 2).trans h.br.c2, (f 1).trans h.br.f1, (f 2).trans h.br.f2⟩, (e 3).trans h.c3, (e 4).trans h.c4, (e 5).trans h.c5, (e 6).trans h.c6, (e 7).trans h.c7,
    fun o => (f o).trans (h.fr o), h.tabs.kept (hk _ (by omega)) (hk _ (by omega)), hp⟩
theorem Rd.set_new {w w1 : World} {yb yo g o : Nat} (h : Rd w w1 yb yo) (hg : w.heap.size ≤ g) (x : Value) : Rd w (w1.setCell ⟨g, o, none⟩ x) yb yo :=
  ⟨h.os, h.tape, h.output, by simpa using h.size, fun i hi hy => (heap_setCell_other _ _ _ _ (by show i ≠ g; omega)).trans (h.block i hi hy)⟩
theorem Rd.set_own {w w1 : World} {yb yo o : Nat} (h : Rd w w1 yb yo) (x : Value) : Rd w (w1.setCell ⟨yb, o, none⟩ x) yb yo := h.trans (Rd.set x)

theorem UOk.win {s : ByteArray} {u : US} (h : UOk s u) : UOk s (winU s u) := by
  unfold winU
  simp only
  split
  · rename_i h1
    exact ⟨h.ht, h.hd, h.hb, h1, tk_pos _ _ _ _ (tk_pos _ _ _ _ h.hpos)⟩
  · exact ⟨h.ht, h.hd, h.hb, Nat.zero_le _, tk_pos _ _ _ _ (tk_pos _ _ _ _ h.hpos)⟩

set_option maxRecDepth 100000 in
set_option maxHeartbeats 400000 in
theorem takeWindow_any (ub : Nat) (s : ByteArray) (u : US) (w : World) (H : UP w ub s u) (hu : UOk s u) (hs : s.size ≤ 140737488355328) :
    Calls Tryz.prog 172 #[.pointer (some ⟨ub, 0, none⟩)] w fun e w' => e = .returned (.tuple #[]) ∧ UP w' ub s (winU s u) ∧ Rd w w' ub 0 := by
  have hub := H.lt
  have C1 := hide (take_any ub 0 u.pos u.st 5 s w H.br hs hu.hpos (by omega))
  have hx := tk_lt s u.pos u.st 5
  have hp1 := tk_pos s u.pos u.st 5 hu.hpos
  have HE : Hid (winU s u = if (tk s u.pos u.st 5).1 + ((tk s (tk s u.pos u.st 5).2.1 (tk s u.pos u.st 5).2.2 6).1 + 1) ≤ 64 then { u with pos := (tk s (tk s u.pos u.st 5).2.1 (tk s u.pos u.st 5).2.2 6).2.1, st := (tk s (tk s u.pos u.st 5).2.1 (tk s u.pos u.st 5).2.2 6).2.2, a := (tk s u.pos u.st 5).1, z := (tk s (tk s u.pos u.st 5).2.1 (tk s u.pos u.st 5).2.2 6).1 + 1 }
    else { u with pos := (tk s (tk s u.pos u.st 5).2.1 (tk s u.pos u.st 5).2.2 6).2.1, st := 1, a := 0, z := 0 }) := rfl
  generalize tk s u.pos u.st 5 = t1 at *
  obtain ⟨x, p1, q1⟩ := t1
  simp only at C1 hx hp1 HE
  have hy := tk_lt s p1 q1 6
  have HP := hide H
  clear H
  have hx5 : x < 32 := hx
  have HT2 := hide (fun (w1 : World) (hB : BR w1 ub 0 s p1 q1) => take_any ub 0 p1 q1 6 s w1 hB hs hp1 (by omega))
  generalize tk s p1 q1 6 = t2 at *
  obtain ⟨y, p2, q2⟩ := t2
  simp only at hy HE HT2
  have hy6 : y < 64 := hy
  clear hx hy hu hp1
  go_enter Tryz.func172, Tryz.ntmps172
  go_wp2_with fail
  refine C1.out.mono ?_
  rintro e w1 ⟨rfl, hB1, hR1⟩
  have HP1 := hide (HP.out.read hB1 hR1)
  have HR1 := hide (Rd.of_read hR1)
  have hs1 := hR1.size
  clear hB1 hR1 HP C1
  go_wp2_with fail
  have P2 := HP1.out.alloc (.cells #[.int .i64 x, .int .i64 0] 212)
  refine (HT2.out _ P2.br).mono ?_
  rintro e w2 ⟨rfl, hB2, hR2⟩
  have P3 := P2.read hB2 hR2
  have HR2 := hide ((HR1.out.alloc (.cells #[.int .i64 x, .int .i64 0] 212)).trans (Rd.of_read hR2))
  have hne : w1.heap.size ≠ ub := by omega
  have k0 : w2.cell? ⟨w1.heap.size, 0, none⟩ = some (.int .i64 x) := (World.cell?_of_block (a := ⟨w1.heap.size, 0, none⟩) (hR2.block _ hne)).trans (World.cell?_alloc_new _ _ _ 0)
  have k1 : w2.cell? ⟨w1.heap.size, 1, none⟩ = some (.int .i64 0) := (World.cell?_of_block (a := ⟨w1.heap.size, 1, none⟩) (hR2.block _ hne)).trans (World.cell?_alloc_new _ _ _ 1)
  have f1 : w2.frozen? ⟨w1.heap.size, 1, none⟩ = false := (World.frozen?_of_block (a := ⟨w1.heap.size, 1, none⟩) (hR2.block _ hne)).trans (World.frozen?_alloc_new _ _ _ 1)
  have f0 : w2.frozen? ⟨w1.heap.size, 0, none⟩ = false := (World.frozen?_of_block (a := ⟨w1.heap.size, 0, none⟩) (hR2.block _ hne)).trans (World.frozen?_alloc_new _ _ _ 0)
  have HP3 := hide P3
  have hg : w2.heap.size = w1.heap.size + 1 := by have := hR2.size; simp at this; omega
  have C3 : Hid (∀ W, Calls Tryz.prog 173 #[.agg #[.int .i64 x, .int .i64 ((y : Int) + 1)]] W fun e w' => e = .returned (.int .i64 (64 - (x : Int) - ((y : Int) + 1))) ∧ w' = W.alloc (.cells #[.int .i64 x, .int .i64 ((y : Int) + 1)] 212)) := fun W => by
    have h := behind_any x (y + 1) W (by omega) (by omega)
    have e1 : ((y + 1 : Nat) : Int) = (y : Int) + 1 := by omega
    rw [e1] at h; exact h
  clear P2 P3 hB2 hR2 HP1 HR1 HT2
  go_wp2_with fail
  refine (C3.out _).mono ?_
  rintro e w3 ⟨rfl, hw3⟩
  have P4 : UP w3 ub s { u with pos := p2, st := q2 } := HP3.out.low fun k hk => by
    rw [hw3, heap_alloc_old _ _ (by simp; omega), heap_setCell_other _ _ _ _ (by show k ≠ w1.heap.size; omega)]
  have HR3 : Hid (Rd w w3 ub 0) := by rw [hw3]; exact (HR2.out.set_new (by omega) _).alloc _
  have e3 : ∀ o, w3.cell? ⟨w1.heap.size, o, none⟩ = (w2.setCell ⟨w1.heap.size, 1, none⟩ (.int .i64 ((y : Int) + 1))).cell? ⟨w1.heap.size, o, none⟩ := fun o => by
    rw [hw3]; exact World.cell?_of_block (a := ⟨w1.heap.size, o, none⟩) (heap_alloc_old _ _ (by simp; omega))
  have g3 : ∀ o, w3.frozen? ⟨w1.heap.size, o, none⟩ = w2.frozen? ⟨w1.heap.size, o, none⟩ := fun o => by
    rw [hw3]
    refine (World.frozen?_of_block (a := ⟨w1.heap.size, o, none⟩) (heap_alloc_old _ _ (by simp; omega))).trans ?_
    rw [World.frozen?_setCell]
  have m0 : w3.cell? ⟨w1.heap.size, 0, none⟩ = some (.int .i64 x) := by
    rw [e3, World.cell?_setCell_other _ _ _ _ (fun e => absurd (congrArg Addr.off e) (by simp))]; exact k0
  have m1 : w3.cell? ⟨w1.heap.size, 1, none⟩ = some (.int .i64 ((y : Int) + 1)) := by
    rw [e3]; exact World.cell?_setCell_same _ _ _ k1
  have n0 := (g3 0).trans f0
  have n1 := (g3 1).trans f1
  have c2 := P4.br.c2
  have c6 := P4.c6
  have c7 := P4.c7
  have fr2 := P4.fr 2
  have fr6 := P4.fr 6
  have fr7 := P4.fr 7
  have HP4 := hide P4
  have hws : w.heap.size ≤ w1.heap.size := by omega
  clear P4 hw3 e3 g3 k0 k1 f0 f1 HP3 HR2 C3 hg hs1
  generalize w1.heap.size = g at *
  have hne2 : ¬ ub = g := fun e => hne e.symm
  by_cases hle : x + (y + 1) ≤ 64
  · have hdec : decide ((64 : Int) - x - ((y : Int) + 1) < 0) = false := by simp; omega
    have HE2 := hide (HE.out.trans (if_pos hle))
    clear HE hle
    go_wp2
    go_end0
    have h := (HP4.out.setA x).setZ (y + 1)
    have e1 : ((y + 1 : Nat) : Int) = (y : Int) + 1 := by omega
    rw [e1] at h
    exact ⟨rfl, by rw [HE2.out]; exact h, (HR3.out.set_own _).set_own _⟩
  · have hdec : decide ((64 : Int) - x - ((y : Int) + 1) < 0) = true := by simp; omega
    have HE2 := hide (HE.out.trans (if_neg hle))
    clear HE hle
    go_wp2
    go_end0
    have h := (((HP4.out.setSt 1).low (w' := ((w3.setCell ⟨ub, 2, none⟩ (.int .i64 1)).setCell ⟨g, 0, none⟩ (.int .i64 0)).setCell ⟨g, 1, none⟩ (.int .i64 0)) fun k hk => by
      rw [heap_setCell_other _ _ _ _ (by show k ≠ g; omega), heap_setCell_other _ _ _ _ (by show k ≠ g; omega)]; rfl).setA 0).setZ 0
    exact ⟨rfl, by rw [HE2.out]; exact h, (((((HR3.out.set_own _).set_new hws _).set_new hws _).set_own _).set_own _)⟩
end Go.Proofs.YtamcclcbmenjdaaGreatDoor

/- 'choirkeep.Lattice', for any three lists of raw samples: joins do not hang on order, grouping and how often; with bytes and without it is the same. The first form's statement and its card: no condition beside the row's own. -/
import Derived.Test.YtamcclcbmenjdaaGreatDoorLatticeG13
import Derived.Deep.DeepAppendRoom
import Derived.OwnWalk
/- What the readers make of bytes, as functions. -/
namespace Go.Proofs.YtamcclcbmenjdaaGreatDoor

abbrev Rest := ByteArray × Nat
def gone : Rest := (⟨#[]⟩, 1)
/-- n things, one behind the other. -/
def seqTo {α : Type} (f : Rest → α × Rest) (s : Rest) : Nat → List α × Rest
  | 0 => ([], s)
  | n + 1 => ((seqTo f s n).1 ++ [(f (seqTo f s n).2).1], (f (seqTo f s n).2).2)
theorem seqTo_length {α : Type} (f : Rest → α × Rest) (s : Rest) (n : Nat) : (seqTo f s n).1.length = n := by
  induction n with
  | zero => rfl
  | succ n ih => simp [seqTo, ih]
theorem seqTo_inv {α : Type} (f : Rest → α × Rest) (P : Rest → Prop) (hf : ∀ s, P s → P (f s).2) (s : Rest) (h : P s) (n : Nat) : P (seqTo f s n).2 := by
  induction n with
  | zero => exact h
  | succ n ih => exact hf _ ih
theorem seqTo_all {α : Type} (f : Rest → α × Rest) (P : α → Prop) (hf : ∀ s, P (f s).1) (s : Rest) (n : Nat) : ∀ x ∈ (seqTo f s n).1, P x := by
  induction n with
  | zero => intro x hx; cases hx
  | succ n ih =>
    intro x hx
    rcases List.mem_append.1 hx with h | h
    · exact ih x h
    · rw [List.mem_singleton.1 h]; exact hf _

def tofR (texts : List ByteArray) (s : Rest) : ByteArray × Rest :=
  (if (numR s.1 ((texts.length : Int) - 1) s.2).2.2 = 1 then ⟨#[]⟩ else texts.getD (numR s.1 ((texts.length : Int) - 1) s.2).1 ⟨#[]⟩, (numR s.1 ((texts.length : Int) - 1) s.2).2)
def labR (texts : List ByteArray) (s : Rest) : Lab × Rest := (((tofR texts s).1, (tofR texts (tofR texts s).2).1), (tofR texts (tofR texts s).2).2)
def labsR (texts : List ByteArray) (s : Rest) : List Lab × Rest := seqTo (labR texts) (numR s.1 4 s.2).2 (numR s.1 4 s.2).1
/-- The samples of a chunk, n of them, one at least. -/
def chunkR (s : ByteArray) (n : Nat) : List (Int × Nat) × US := seqU s (firstU s) (n - 1)
def samplesR (s : Rest) : List (Int × Nat) × Rest :=
  let c := numR s.1 40 s.2
  let t := textR c.2.1 c.2.1.size c.2.2
  if c.1 = 0 then ([], gone) else if (chunkR t.1 c.1).2.st = 1 then ((chunkR t.1 c.1).1, gone) else ((chunkR t.1 c.1).1, t.2)
def serR (texts : List ByteArray) (s : Rest) : Ser × Rest := (((labsR texts s).1, (samplesR (labsR texts s).2).1), (samplesR (labsR texts s).2).2)
def textsR (s : Rest) : List ByteArray × Rest := seqTo (fun s => textR s.1 16 s.2) (numR s.1 64 s.2).2 (numR s.1 64 s.2).1
/-- A payload: its series, and the state. -/
def payR (s : ByteArray) : List Ser × Rest :=
  let t := textsR (s, 0)
  let c := numR t.2.1 8 t.2.2
  seqTo (serR t.1) c.2 c.1

/-- The rest is no longer than m, its state 0 or 1. -/
def Short (m : Nat) (s : Rest) : Prop := s.1.size ≤ m ∧ s.2 ≤ 1
theorem short_num {m : Nat} {s : Rest} (h : Short m s) (most : Int) : Short m (numR s.1 most s.2).2 := ⟨Nat.le_trans (numR_size _ _ _) h.1, numR_st _ _ _ h.2⟩
theorem short_text {m : Nat} {s : Rest} (h : Short m s) (most : Int) : Short m (textR s.1 most s.2).2 := ⟨Nat.le_trans (textR_size _ _ _) h.1, textR_st _ _ _ h.2⟩
theorem short_gone (m : Nat) : Short m gone := ⟨Nat.zero_le _, Nat.le_refl _⟩
theorem short_tof {m : Nat} {s : Rest} (texts : List ByteArray) (h : Short m s) : Short m (tofR texts s).2 := short_num h _
theorem short_lab {m : Nat} {s : Rest} (texts : List ByteArray) (h : Short m s) : Short m (labR texts s).2 := short_tof texts (short_tof texts h)
theorem short_labs {m : Nat} {s : Rest} (texts : List ByteArray) (h : Short m s) : Short m (labsR texts s).2 := seqTo_inv (labR texts) (Short m) (fun _ h => short_lab texts h) _ (short_num h 4) _
theorem short_samples {m : Nat} {s : Rest} (h : Short m s) : Short m (samplesR s).2 := by
  unfold samplesR
  simp only
  split
  · exact short_gone m
  · split
    · exact short_gone m
    · exact short_text (short_num h _) _
theorem short_ser {m : Nat} {s : Rest} (texts : List ByteArray) (h : Short m s) : Short m (serR texts s).2 := short_samples (short_labs texts h)
theorem short_texts {m : Nat} {s : Rest} (h : Short m s) : Short m (textsR s).2 := seqTo_inv _ (Short m) (fun _ h => short_text h 16) _ (short_num h 64) _
theorem num_nat (s : Rest) (most : Nat) : (numR s.1 (most : Int) s.2).1 ≤ most := by have := numR_le s.1 most s.2 (by omega); omega
end Go.Proofs.YtamcclcbmenjdaaGreatDoor

/- The byte reader: textOf. -/
namespace Go.Proofs.YtamcclcbmenjdaaGreatDoor
open Go.RowKit Go.Lib

theorem Rd.cell {w w' : World} {yb yo k : Nat} (h : Rd w w' yb yo) (hk : k < w.heap.size) (hy : k ≠ yb) (o : Nat) : w'.cell? ⟨k, o, none⟩ = w.cell? ⟨k, o, none⟩ := World.cell?_of_block (a := ⟨k, o, none⟩) (h.block k hk hy)

set_option maxRecDepth 100000 in
set_option maxHeartbeats 400000 in
theorem textOf_any (yb yo tb : Nat) (p : Rest) (tv : Value) (texts : List ByteArray) (w : World) (H : YR w yb yo p.1 p.2) (hs : Short 140737488355328 p) (ht : TextsAt w tv tb texts) (htb : tb ≠ yb) (htw : tb < w.heap.size) (htl : texts.length ≤ 1000) :
    Calls Tryz.prog 133 #[.pointer (some ⟨yb, yo, none⟩), tv] w fun e w' => e = .returned (.string (tofR texts p).1) ∧ YR w' yb yo (tofR texts p).2.1 (tofR texts p).2.2 ∧ Rd w w' yb yo := by
  have C := hide (number_is yb yo p.2 p.1 ((texts.length : Int) - 1) w H hs.1)
  have hok := numR_ok p.1 ((texts.length : Int) - 1) p.2
  have hst := numR_st p.1 ((texts.length : Int) - 1) p.2 hs.2
  obtain ⟨a, c, hv⟩ : ∃ a c, tv = .slice a texts.length c := by
    rcases ht.shape with ⟨rfl, a, c, rfl⟩ | ⟨o, c, rfl, _⟩ <;> exact ⟨_, _, rfl⟩
  have HE : Hid (tofR texts p = (if (numR p.1 ((texts.length : Int) - 1) p.2).2.2 = 1 then ⟨#[]⟩ else texts.getD (numR p.1 ((texts.length : Int) - 1) p.2).1 ⟨#[]⟩, (numR p.1 ((texts.length : Int) - 1) p.2).2)) := rfl
  generalize numR p.1 ((texts.length : Int) - 1) p.2 = r at *
  obtain ⟨n, s1, q⟩ := r
  simp only at C hok hst HE
  have HT := hide ht
  clear H ht hs
  subst hv
  go_enter Tryz.func133, Tryz.ntmps133
  go_wp2_with fail
  refine C.out.mono ?_
  rintro e w1 ⟨rfl, hY, hR⟩
  have c1 := hY.c1
  have HY := hide hY
  have HR := hide hR
  clear hY hR C
  by_cases hq : q = 1
  · subst hq
    clear hok hst
    go_wp2
    go_ret
    rw [HE.out]
    exact ⟨rfl, HY.out, HR.out⟩
  · have hq0 : q = 0 := by omega
    subst hq0
    have hn := hok (by omega)
    have hlt : n < texts.length := by omega
    obtain ⟨x, hx⟩ : ∃ x, texts[n]? = some x := ⟨_, List.getElem?_eq_getElem hlt⟩
    have hc : ∃ o, a = some ⟨tb, o, none⟩ ∧ w.cell? ⟨tb, o + n, none⟩ = some (.string x) := by
      rcases HT.out.shape with ⟨h0, _⟩ | ⟨o, c', hv, hcell⟩
      · rw [h0] at hx; cases hx
      · cases hv; exact ⟨o, rfl, hcell n x hx⟩
    obtain ⟨o, rfl, hc⟩ := hc
    have m1 := (HR.out.cell htw htb (o + n)).trans hc
    have HG : Hid (texts.getD n ⟨#[]⟩ = x) := by show _ = _; rw [List.getD_eq_getElem?_getD, hx]; rfl
    clear hc hx hn hok hst hq
    go_wp2
    go_ret
    rw [HE.out, if_neg (by decide), HG.out]
    exact ⟨rfl, HY.out, HR.out⟩
end Go.Proofs.YtamcclcbmenjdaaGreatDoor

/- The byte reader: labels, texts. -/
namespace Go.Proofs.YtamcclcbmenjdaaGreatDoor
open Go.RowKit Go.Lib

theorem own_rd {base e size n yb yo : Nat} {w w' : World} {v : Value} {xs : List Value} (h : w.ownsRow base e size v n xs) (hr : Rd w w' yb yo) (hy : yb < base) : w'.ownsRow base e size v n xs :=
  own_kept h fun k hk => by have := World.ownsRow.lt h k hk; exact hr.block k this.2 (by omega)
theorem Rd.grown {w w1 w2 : World} {yb yo : Nat} {r : Option Nat} (h : Rd w w1 yb yo) (k : w1.grownBy w2 r) (hr : ∀ b, r = some b → w.heap.size ≤ b) : Rd w w2 yb yo :=
  ⟨k.os.trans h.os, k.tape.trans h.tape, k.output.trans h.output, Nat.le_trans h.size k.size, fun i hi hy => (k.block i (Nat.lt_of_lt_of_le hi h.size) (fun e => by have := hr i e.symm; omega)).trans (h.block i hi hy)⟩
theorem Rd.alloc {w w1 : World} {yb yo : Nat} (h : Rd w w1 yb yo) (ob : Obj) : Rd w (w1.alloc ob) yb yo :=
  ⟨h.os, h.tape, h.output, Nat.le_trans h.size (by simp), fun i hi hy => (heap_alloc_old w1 ob (Nat.lt_of_lt_of_le hi h.size)).trans (h.block i hi hy)⟩
theorem Rd.below {w w1 w2 : World} {yb yo : Nat} (h : Rd w w1 yb yo) (k : Below w1.heap.size w1 w2) : Rd w w2 yb yo :=
  ⟨k.os.trans h.os, k.tape.trans h.tape, k.output.trans h.output, Nat.le_trans h.size k.size, fun i hi hy => (k.block i (Nat.lt_of_lt_of_le hi h.size)).trans (h.block i hi hy)⟩
theorem YR.kept {w w' : World} {yb yo st : Nat} {s : ByteArray} (h : YR w yb yo s st) (hk : w'.heap[yb]? = w.heap[yb]?) : YR w' yb yo s st :=
  ⟨(World.cell?_of_block (a := ⟨yb, yo, none⟩) hk).trans h.c0, (World.cell?_of_block (a := ⟨yb, yo + 1, none⟩) hk).trans h.c1, (World.frozen?_of_block (a := ⟨yb, yo, none⟩) hk).trans h.f0, (World.frozen?_of_block (a := ⟨yb, yo + 1, none⟩) hk).trans h.f1⟩
theorem YR.lt {w : World} {yb yo st : Nat} {s : ByteArray} (h : YR w yb yo s st) : yb < w.heap.size := World.block_lt_of_cell? w _ h.c0
theorem YR.alloc {w : World} {yb yo st : Nat} {s : ByteArray} (h : YR w yb yo s st) (ob : Obj) : YR (w.alloc ob) yb yo s st := h.kept (heap_alloc_old w ob h.lt)
theorem YR.grown {w w' : World} {yb yo st : Nat} {s : ByteArray} {r : Option Nat} (h : YR w yb yo s st) (k : w.grownBy w' r) (hr : some yb ≠ r) : YR w' yb yo s st := h.kept (k.block yb h.lt hr)

set_option maxRecDepth 100000 in
set_option maxHeartbeats 400000 in
theorem labels_any (yb yo tb : Nat) (p : Rest) (tv : Value) (texts : List ByteArray) (w : World) (H : YR w yb yo p.1 p.2) (hs : Short 140737488355328 p) (ht : TextsAt w tv tb texts) (htb : tb ≠ yb) (htw : tb < w.heap.size) (htl : texts.length ≤ 1000) :
    Calls Tryz.prog 108 #[.pointer (some ⟨yb, yo, none⟩), tv] w fun e w' => ∃ v, e = .returned v ∧ w'.ownsRow w.heap.size 80 2 v (labsR texts p).1.length (labCells (labsR texts p).1) ∧
      YR w' yb yo (labsR texts p).2.1 (labsR texts p).2.2 ∧ Rd w w' yb yo := by
  obtain ⟨i0, hi, hz0, hz1, hz2⟩ := info_parts Tryz.infoLab
  have hyw := H.lt
  have C := hide (number_is yb yo p.2 p.1 4 w H hs.1)
  have hn4 := num_nat p 4
  have hs1 := short_num hs 4
  have HE : Hid (labsR texts p = seqTo (labR texts) (numR p.1 4 p.2).2 (numR p.1 4 p.2).1) := rfl
  have hn4' : (numR p.1 4 p.2).1 ≤ 4 := hn4
  generalize numR p.1 4 p.2 = r at *
  obtain ⟨n, p1⟩ := r
  simp only at C hn4' hs1 HE
  have HT := hide ht
  have HSh := hide hs1
  obtain ⟨ta, tc, hv⟩ : ∃ a c, tv = .slice a texts.length c := by
    rcases ht.shape with ⟨rfl, a, c, rfl⟩ | ⟨o, c, rfl, _⟩ <;> exact ⟨_, _, rfl⟩
  clear H ht hs hs1 hn4
  subst hv
  go_enter Tryz.func108, Tryz.ntmps108
  go_wp2_with fail
  refine C.out.mono ?_
  rintro e w1 ⟨rfl, hY, hR⟩
  have HY := hide hY
  have HR := hide hR
  have hsz := hR.size
  clear hY hR C
  go_wp2_with (first | (at_make; refine wpList_make_own _ rfl _ _ 36 rfl w.heap.size 80 i0 _ 2 Tryz.underlying36 hi hz0 hz1 .i64 .i64 _ n rfl rfl rfl (by rw [hz2]; omega) (by unfold maxLen; omega) hsz ?_; intro w2 hown2 hgrow2))
  have HY2 := hide (HY.out.grown hgrow2 (by simp))
  have HR2 := hide (HR.out.grown hgrow2 (by simp))
  have HO2 := hide hown2
  clear hown2 hgrow2 HY HR
  go_wp2
  go_loopw [6, 7, 13] (fun o _ i wr => ∃ k : Nat, k ≤ n ∧ i = .int .i64 k ∧ o = .slice (some ⟨w1.heap.size, 0, none⟩) k n ∧ wr.ownsRow w.heap.size 80 2 (.slice (some ⟨w1.heap.size, 0, none⟩) k n) k (labCells (seqTo (labR texts) p1 k).1) ∧
      YR wr yb yo (seqTo (labR texts) p1 k).2.1 (seqTo (labR texts) p1 k).2.2 ∧ Rd w wr yb yo) (fun _ _ i _ => n - (intOf i).toNat)
  case atStart => exact ⟨0, Nat.zero_le _, rfl, rfl, HO2.out, HY2.out, HR2.out⟩
  case round =>
    obtain ⟨k, hk, rfl, rfl, hO, hY, hR⟩ := hrel
    have HO := hide hO
    have HR := hide hR
    by_cases hlt : k < n
    · have hS := seqTo_inv (labR texts) (Short 140737488355328) (fun _ => short_lab texts) p1 HSh.out k
      have hT1 := HT.out.kept (hR.block tb htw htb)
      have hsz1 := hR.size
      have C1 := hide (textOf_any yb yo tb (seqTo (labR texts) p1 k).2 _ texts wr hY hS hT1 htb (by omega) htl)
      have hS2 := short_tof texts hS
      have HX : Hid ((seqTo (labR texts) p1 (k + 1)).1 = (seqTo (labR texts) p1 k).1 ++ [((tofR texts (seqTo (labR texts) p1 k).2).1, (tofR texts (tofR texts (seqTo (labR texts) p1 k).2).2).1)]) := rfl
      have HX2 : Hid ((seqTo (labR texts) p1 (k + 1)).2 = (tofR texts (tofR texts (seqTo (labR texts) p1 k).2).2).2) := rfl
      generalize (seqTo (labR texts) p1 k).2 = q at *
      generalize (seqTo (labR texts) p1 k).1 = done at *
      generalize tofR texts q = a1 at *
      obtain ⟨x1, q1⟩ := a1
      simp only at C1 hS2 HX HX2
      clear hO hY hR hS hT1 HY2 HR2 HO2
      go_wp2_with fail
      refine C1.out.mono ?_
      rintro e w3 ⟨rfl, hY3, hR3⟩
      have hR3' := HR.out.trans hR3
      have hT3 := HT.out.kept (hR3'.block tb htw htb)
      have hsz3 := hR3'.size
      have C2 := hide (textOf_any yb yo tb q1 _ texts w3 hY3 hS2 hT3 htb (by omega) htl)
      generalize tofR texts q1 = a2 at *
      obtain ⟨x2, q2⟩ := a2
      simp only at C2 HX HX2
      have HO3 := hide (own_rd HO.out hR3 hyw)
      have HR3 := hide hR3'
      clear hY3 hR3 hR3' hT3 C1 HO HR
      go_wp2_with fail
      refine C2.out.mono ?_
      rintro e w4 ⟨rfl, hY4, hR4⟩
      have HO4 := hide (own_rd HO3.out hR4 hyw)
      have HR4 := hide (HR3.out.trans hR4)
      have HY4 := hide hY4
      have hsz4 := HR4.out.size
      clear hY4 hR4 C2 HO3 HR3
      go_wp2_with (first | (at_builtin; refine wpList_append_own_spare _ rfl (.tmp 18) (.tmp 24) 36 rfl w.heap.size 80 i0 2 Tryz.underlying36 hi hz1 w1.heap.size k n _ rfl (own_alloc HO4.out _) ⟨w4.heap.size, 0, none⟩ 1 1 [.string x1, .string x2] rfl rfl (cells_new _ _ _) (one_two rfl rfl) (by omega) ?_))
      intro w5 hown5 hgrow5
      have hylt : some yb ≠ some w1.heap.size := fun e => by have := Option.some.inj e; omega
      have HO5 : Hid (w5.ownsRow w.heap.size 80 2 (.slice (some ⟨w1.heap.size, 0, none⟩) (k + 1) n) (k + 1) (labCells (seqTo (labR texts) p1 (k + 1)).1)) := by
        rw [HX.out, labCells_snoc]; exact hown5
      have HY5 : Hid (YR w5 yb yo (seqTo (labR texts) p1 (k + 1)).2.1 (seqTo (labR texts) p1 (k + 1)).2.2) := by
        rw [HX2.out]; exact (HY4.out.alloc _).grown hgrow5 hylt
      have HR5 := hide ((HR4.out.alloc (.cells #[.string x1, .string x2] 80)).grown hgrow5 (fun b e => by have := Option.some.inj e; omega))
      clear hown5 hgrow5 HO4 HY4 HR4 HX HX2
      go_wp2
      go_roundw
      case rel => exact ⟨k + 1, by omega, by go_num, rfl, HO5.out, HY5.out, HR5.out⟩
      case measure => simp [intOf]; omega
    · have hke : k = n := by omega
      subst hke
      have HY := hide hY
      clear hO hY hR
      go_wp2
      go_ret
      rw [HE.out]
      exact ⟨_, rfl, by rw [seqTo_length]; exact HO.out, HY.out, HR.out⟩
end Go.Proofs.YtamcclcbmenjdaaGreatDoor

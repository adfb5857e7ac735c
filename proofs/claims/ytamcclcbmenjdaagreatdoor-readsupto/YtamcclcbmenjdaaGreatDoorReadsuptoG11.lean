/- 'choirlaw.Reads', for any list of texts of bulk at most 1048576: Decode answers the document's batch or error, one behind the other; lists that came out are their owner's own. The second form's statement and its card: its only condition is the row's own bound on the argument's bulk. -/
import Derived.Test.YtamcclcbmenjdaaGreatDoorReadsuptoG10
import Derived.Deep.DeepAppendRoom
import Derived.OwnWalk
import Derived.Test.YtamcclcbmenjdaaGreatDoorReadsuptoG1
import Derived.Deep.RegionHeld3
/- The byte reader: labels, texts. -/
namespace Go.Proofs.YtamcclcbmenjdaaGreatDoor
open Go.RowKit Go.Lib

theorem own_rd {base e size n yb yo : Nat} {w w' : World} {v : Value} {xs : List Value} (h : w.ownsRow base e size v n xs) (hr : Rd w w' yb yo) (hy : yb < base) : w'.ownsRow base e size v n xs :=
  own_kept h fun k hk => by have := World.ownsRow.lt h k hk; exact hr.block k this.2 (by omega)
theorem Rd.grown {w w1 w2 : World} {yb yo : Nat} {r : Option Nat} (h : Rd w w1 yb yo) (k : w1.grownBy w2 r) (hr : ∀ b, r = some b → w.heap.size ≤ b) : Rd w w2 yb yo :=
  ⟨k.os.trans h.os, k.tape.trans h.tape, k.output.trans h.output, Nat.le_trans h.size k.size, fun i hi hy => (k.block i (Nat.lt_of_lt_of_le hi h.size) (fun e => by have := hr i e.symm; omega)).trans (h.block i hi hy)⟩
theorem Rd.alloc {w w1 : World} {yb yo : Nat} (h : Rd w w1 yb yo) (ob : Obj) : Rd w (w1.alloc ob) yb yo :=
  ⟨h.os, h.tape, h.output, Nat.le_trans h.size (by simp), fun i hi hy => (heap_alloc_old w1 ob (Nat.lt_of_lt_of_le hi h.size)).trans (h.block i hi hy)⟩
theorem Rd.below {w w1 w2 : World} {yb yo : Nat} (h : Rd w w1 yb yo) (k : Below w1.heap.size w1 w2) : Rd w w2 yb yo :=
  ⟨k.os.trans h.os, k.tape.trans h.tape, k.output.trans h.output, Nat.le_trans h.size k.size, fun i hi hy => (k.block i (Nat.lt_of_lt_of_le hi h.size)).trans (h.block i hi hy)⟩
theorem YR.kept {w w' : World} {yb yo st : Nat} {s : ByteArray} (h : YR w yb yo s st) (hk : w'.heap[yb]? = w.heap[yb]?) : YR w' yb yo s st :=
  ⟨(World.cell?_of_block (a := ⟨yb, yo, none⟩) hk).trans h.c0, (World.cell?_of_block (a := ⟨yb, yo + 1, none⟩) hk).trans h.c1, (World.frozen?_of_block (a := ⟨yb, yo, none⟩) hk).trans h.f0, (World.frozen?_of_block (a := ⟨yb, yo + 1, none⟩) hk).trans h.f1⟩
theorem YR.lt {w : World} {yb yo st : Nat} {s : ByteArray} (h : YR w yb yo s st) : yb < w.heap.size := World.block_lt_of_cell? w _ h.c0
theorem YR.alloc {w : World} {yb yo st : Nat} {s : ByteArray} (h : YR w yb yo s st) (ob : Obj) : YR (w.alloc ob) yb yo s st := h.kept (heap_alloc_old w ob h.lt)
theorem YR.grown {w w' : World} {yb yo st : Nat} {s : ByteArray} {r : Option Nat} (h : YR w yb yo s st) (k : w.grownBy w' r) (hr : some yb ≠ r) : YR w' yb yo s st := h.kept (k.block yb h.lt hr)

set_option maxRecDepth 100000 in
set_option maxHeartbeats 400000 in
theorem labels_any (yb yo tb : Nat) (p : Rest) (tv : Value) (texts : List ByteArray) (w : World) (H : YR w yb yo p.1 p.2) (hs : Short 140737488355328 p) (ht : TextsAt w tv tb texts) (htb : tb ≠ yb) (htw : tb < w.heap.size) (htl : texts.length ≤ 1000) :
    Calls Tryz.prog 108 #[.pointer (some ⟨yb, yo, none⟩), tv] w fun e w' => ∃ v, e = .returned v ∧ w'.ownsRow w.heap.size 80 2 v (labsR texts p).1.length (labCells (labsR texts p).1) ∧
      YR w' yb yo (labsR texts p).2.1 (labsR texts p).2.2 ∧ Rd w w' yb yo := by
  obtain ⟨i0, hi, hz0, hz1, hz2⟩ := info_parts Tryz.infoLab
  have hyw := H.lt
  have C := hide (number_is yb yo p.2 p.1 4 w H hs.1)
  have hn4 := num_nat p 4
  have hs1 := short_num hs 4
  have HE : Hid (labsR texts p = seqTo (labR texts) (numR p.1 4 p.2).2 (numR p.1 4 p.2).1) := rfl
  have hn4' : (numR p.1 4 p.2).1 ≤ 4 := hn4
  generalize numR p.1 4 p.2 = r at *
  obtain ⟨n, p1⟩ := r
  simp only at C hn4' hs1 HE
  have HT := hide ht
  have HSh := hide hs1
  obtain ⟨ta, tc, hv⟩ : ∃ a c, tv = .slice a texts.length c := by
    rcases ht.shape with ⟨rfl, a, c, rfl⟩ | ⟨o, c, rfl, _⟩ <;> exact ⟨_, _, rfl⟩
  clear H ht hs hs1 hn4
  subst hv
  go_enter Tryz.func108, Tryz.ntmps108
  go_wp2_with fail
  refine C.out.mono ?_
  rintro e w1 ⟨rfl, hY, hR⟩
  have HY := hide hY
  have HR := hide hR
  have hsz := hR.size
  clear hY hR C
  go_wp2_with (first | (at_make; refine wpList_make_own _ rfl _ _ 36 rfl w.heap.size 80 i0 _ 2 Tryz.underlying36 hi hz0 hz1 .i64 .i64 _ n rfl rfl rfl (by rw [hz2]; omega) (by unfold maxLen; omega) hsz ?_; intro w2 hown2 hgrow2))
  have HY2 := hide (HY.out.grown hgrow2 (by simp))
  have HR2 := hide (HR.out.grown hgrow2 (by simp))
  have HO2 := hide hown2
  clear hown2 hgrow2 HY HR
  go_wp2
  go_loopw [6, 7, 13] (fun o _ i wr => ∃ k : Nat, k ≤ n ∧ i = .int .i64 k ∧ o = .slice (some ⟨w1.heap.size, 0, none⟩) k n ∧ wr.ownsRow w.heap.size 80 2 (.slice (some ⟨w1.heap.size, 0, none⟩) k n) k (labCells (seqTo (labR texts) p1 k).1) ∧
      YR wr yb yo (seqTo (labR texts) p1 k).2.1 (seqTo (labR texts) p1 k).2.2 ∧ Rd w wr yb yo) (fun _ _ i _ => n - (intOf i).toNat)
  case atStart => exact ⟨0, Nat.zero_le _, rfl, rfl, HO2.out, HY2.out, HR2.out⟩
  case round =>
    obtain ⟨k, hk, rfl, rfl, hO, hY, hR⟩ := hrel
    have HO := hide hO
    have HR := hide hR
    by_cases hlt : k < n
    · have hS := seqTo_inv (labR texts) (Short 140737488355328) (fun _ => short_lab texts) p1 HSh.out k
      have hT1 := HT.out.kept (hR.block tb htw htb)
      have hsz1 := hR.size
      have C1 := hide (textOf_any yb yo tb (seqTo (labR texts) p1 k).2 _ texts wr hY hS hT1 htb (by omega) htl)
      have hS2 := short_tof texts hS
      have HX : Hid ((seqTo (labR texts) p1 (k + 1)).1 = (seqTo (labR texts) p1 k).1 ++ [((tofR texts (seqTo (labR texts) p1 k).2).1, (tofR texts (tofR texts (seqTo (labR texts) p1 k).2).2).1)]) := rfl
      have HX2 : Hid ((seqTo (labR texts) p1 (k + 1)).2 = (tofR texts (tofR texts (seqTo (labR texts) p1 k).2).2).2) := rfl
      generalize (seqTo (labR texts) p1 k).2 = q at *
      generalize (seqTo (labR texts) p1 k).1 = done at *
      generalize tofR texts q = a1 at *
      obtain ⟨x1, q1⟩ := a1
      simp only at C1 hS2 HX HX2
      clear hO hY hR hS hT1 HY2 HR2 HO2
      go_wp2_with fail
      refine C1.out.mono ?_
      rintro e w3 ⟨rfl, hY3, hR3⟩
      have hR3' := HR.out.trans hR3
      have hT3 := HT.out.kept (hR3'.block tb htw htb)
      have hsz3 := hR3'.size
      have C2 := hide (textOf_any yb yo tb q1 _ texts w3 hY3 hS2 hT3 htb (by omega) htl)
      generalize tofR texts q1 = a2 at *
      obtain ⟨x2, q2⟩ := a2
      simp only at C2 HX HX2
      have HO3 := hide (own_rd HO.out hR3 hyw)
      have HR3 := hide hR3'
      clear hY3 hR3 hR3' hT3 C1 HO HR
      go_wp2_with fail
      refine C2.out.mono ?_
      rintro e w4 ⟨rfl, hY4, hR4⟩
      have HO4 := hide (own_rd HO3.out hR4 hyw)
      have HR4 := hide (HR3.out.trans hR4)
      have HY4 := hide hY4
      have hsz4 := HR4.out.size
      clear hY4 hR4 C2 HO3 HR3
      go_wp2_with (first | (at_builtin; refine wpList_append_own_spare _ rfl (.tmp 18) (.tmp 24) 36 rfl w.heap.size 80 i0 2 Tryz.underlying36 hi hz1 w1.heap.size k n _ rfl (own_alloc HO4.out _) ⟨w4.heap.size, 0, none⟩ 1 1 [.string x1, .string x2] rfl rfl (cells_new _ _ _) (one_two rfl rfl) (by omega) ?_))
      intro w5 hown5 hgrow5
      have hylt : some yb ≠ some w1.heap.size := fun e => by have := Option.some.inj e; omega
      have HO5 : Hid (w5.ownsRow w.heap.size 80 2 (.slice (some ⟨w1.heap.size, 0, none⟩) (k + 1) n) (k + 1) (labCells (seqTo (labR texts) p1 (k + 1)).1)) := by
        rw [HX.out, labCells_snoc]; exact hown5
      have HY5 : Hid (YR w5 yb yo (seqTo (labR texts) p1 (k + 1)).2.1 (seqTo (labR texts) p1 (k + 1)).2.2) := by
        rw [HX2.out]; exact (HY4.out.alloc _).grown hgrow5 hylt
      have HR5 := hide ((HR4.out.alloc (.cells #[.string x1, .string x2] 80)).grown hgrow5 (fun b e => by have := Option.some.inj e; omega))
      clear hown5 hgrow5 HO4 HY4 HR4 HX HX2
      go_wp2
      go_roundw
      case rel => exact ⟨k + 1, by omega, by go_num, rfl, HO5.out, HY5.out, HR5.out⟩
      case measure => simp [intOf]; omega
    · have hke : k = n := by omega
      subst hke
      have HY := hide hY
      clear hO hY hR
      go_wp2
      go_ret
      rw [HE.out]
      exact ⟨_, rfl, by rw [seqTo_length]; exact HO.out, HY.out, HR.out⟩
end Go.Proofs.YtamcclcbmenjdaaGreatDoor

/- The unpacker: sample, takeWindow. -/
namespace Go.Proofs.YtamcclcbmenjdaaGreatDoor
open Go.RowKit Go.Lib

theorem wrap_toI (t : Nat) (h : t ≤ 18446744073709551615) : IntKind.i64.wrap (t : Int) = toI t := by
  rw [IntKind.wrap_i64, toI]; split <;> omega

set_option maxRecDepth 100000 in
set_option maxHeartbeats 400000 in
theorem sample_any (ub : Nat) (s : ByteArray) (u : US) (w : World) (H : UP w ub s u) (ht : u.t ≤ 18446744073709551615) :
    Calls Tryz.prog 150 #[.pointer (some ⟨ub, 0, none⟩)] w fun e w' => e = .returned (.agg #[.int .i64 (toI u.t), .int .u64 u.b]) ∧ Below w.heap.size w w' := by
  have c3 := H.c3
  have c5 := H.c5
  have hub := H.lt
  have hw := wrap_toI u.t ht
  clear H ht
  generalize u.t = t at *
  generalize u.b = b at *
  go_enter Tryz.func150, Tryz.ntmps150
  go_wp2
  go_region
  go_wp2
  exact bodyPost_ret (v := .agg #[.int .i64 (toI t), .int .u64 b]) (by simp [results, Tryz.results150, go_sem]) rfl ⟨rfl, ((Below.refl _ _).alloc (Nat.le_refl _) _).drew⟩

/-- Where the unpacker's block, and those ahead of it, are as they were. -/
theorem UP.low {w w' : World} {ub : Nat} {s : ByteArray} {u : US} (h : UP w ub s u) (hk : ∀ k, k ≤ ub → w'.heap[k]? = w.heap[k]?) : UP w' ub s u := by
  have hb := hk ub (Nat.le_refl _)
  have e : ∀ o, w'.cell? ⟨ub, o, none⟩ = w.cell? ⟨ub, o, none⟩ := fun o => World.cell?_of_block (a := ⟨ub, o, none⟩) hb
  have f : ∀ o, w'.frozen? ⟨ub, o, none⟩ = w.frozen? ⟨ub, o, none⟩ := fun o => World.frozen?_of_block (a := ⟨ub, o, none⟩) hb
  have hp := h.hp
  exact ⟨⟨(e 0).trans h.br.c0, (e 1).trans h.br.c1, (e 2).trans h.br.c2, (f 1).trans h.br.f1, (f 2).trans h.br.f2⟩, (e 3).trans h.c3, (e 4).trans h.c4, (e 5).trans h.c5, (e 6).trans h.c6, (e 7).trans h.c7,
    fun o => (f o).trans (h.fr o), h.tabs.kept (hk _ (by omega)) (hk _ (by omega)), hp⟩
theorem Rd.set_new {w w1 : World} {yb yo g o : Nat} (h : Rd w w1 yb yo) (hg : w.heap.size ≤ g) (x : Value) : Rd w (w1.setCell ⟨g, o, none⟩ x) yb yo :=
  ⟨h.os, h.tape, h.output, by simpa using h.size, fun i hi hy => (heap_setCell_other _ _ _ _ (by show i ≠ g; omega)).trans (h.block i hi hy)⟩
theorem Rd.set_own {w w1 : World} {yb yo o : Nat} (h : Rd w w1 yb yo) (x : Value) : Rd w (w1.setCell ⟨yb, o, none⟩ x) yb yo := h.trans (Rd.set x)

theorem UOk.win {s : ByteArray} {u : US} (h : UOk s u) : UOk s (winU s u) := by
  unfold winU
  simp only
  split
  · rename_i h1
    exact ⟨h.ht, h.hd, h.hb, h1, tk_pos _ _ _ _ (tk_pos _ _ _ _ h.hpos)⟩
  · exact ⟨h.ht, h.hd, h.hb, Nat.zero_le _, tk_pos _ _ _ _ (tk_pos _ _ _ _ h.hpos)⟩

set_option maxRecDepth 100000 in
set_option maxHeartbeats 400000 in
theorem takeWindow_any (ub : Nat) (s : ByteArray) (u : US) (w : World) (H : UP w ub s u) (hu : UOk s u) (hs : s.size ≤ 140737488355328) :
    Calls Tryz.prog 172 #[.pointer (some ⟨ub, 0, none⟩)] w fun e w' => e = .returned (.tuple #[]) ∧ UP w' ub s (winU s u) ∧ Rd w w' ub 0 := by
  have hub := H.lt
  have C1 := hide (take_any ub 0 u.pos u.st 5 s w H.br hs hu.hpos (by omega))
  have hx := tk_lt s u.pos u.st 5
  have hp1 := tk_pos s u.pos u.st 5 hu.hpos
  have HE : Hid (winU s u = if (tk s u.pos u.st 5).1 + ((tk s (tk s u.pos u.st 5).2.1 (tk s u.pos u.st 5).2.2 6).1 + 1) ≤ 64 then { u with pos := (tk s (tk s u.pos u.st 5).2.1 (tk s u.pos u.st 5).2.2 6).2.1, st := (tk s (tk s u.pos u.st 5).2.1 (tk s u.pos u.st 5).2.2 6).2.2, a := (tk s u.pos u.st 5).1, z := (tk s (tk s u.pos u.st 5).2.1 (tk s u.pos u.st 5).2.2 6).1 + 1 }
    else { u with pos := (tk s (tk s u.pos u.st 5).2.1 (tk s u.pos u.st 5).2.2 6).2.1, st := 1, a := 0, z := 0 }) := rfl
  generalize tk s u.pos u.st 5 = t1 at *
  obtain ⟨x, p1, q1⟩ := t1
  simp only at C1 hx hp1 HE
  have hy := tk_lt s p1 q1 6
  have HP := hide H
  clear H
  have hx5 : x < 32 := hx
  have HT2 := hide (fun (w1 : World) (hB : BR w1 ub 0 s p1 q1) => take_any ub 0 p1 q1 6 s w1 hB hs hp1 (by omega))
  generalize tk s p1 q1 6 = t2 at *
  obtain ⟨y, p2, q2⟩ := t2
  simp only at hy HE HT2
  have hy6 : y < 64 := hy
  clear hx hy hu hp1
  go_enter Tryz.func172, Tryz.ntmps172
  go_wp2_with fail
  refine C1.out.mono ?_
  rintro e w1 ⟨rfl, hB1, hR1⟩
  have HP1 := hide (HP.out.read hB1 hR1)
  have HR1 := hide (Rd.of_read hR1)
  have hs1 := hR1.size
  clear hB1 hR1 HP C1
  go_wp2_with fail
  have P2 := HP1.out.alloc (.cells #[.int .i64 x, .int .i64 0] 212)
  refine (HT2.out _ P2.br).mono ?_
  rintro e w2 ⟨rfl, hB2, hR2⟩
  have P3 := P2.read hB2 hR2
  have HR2 := hide ((HR1.out.alloc (.cells #[.int .i64 x, .int .i64 0] 212)).trans (Rd.of_read hR2))
  have hne : w1.heap.size ≠ ub := by omega
  have k0 : w2.cell? ⟨w1.heap.size, 0, none⟩ = some (.int .i64 x) := (World.cell?_of_block (a := ⟨w1.heap.size, 0, none⟩) (hR2.block _ hne)).trans (World.cell?_alloc_new _ _ _ 0)
  have k1 : w2.cell? ⟨w1.heap.size, 1, none⟩ = some (.int .i64 0) := (World.cell?_of_block (a := ⟨w1.heap.size, 1, none⟩) (hR2.block _ hne)).trans (World.cell?_alloc_new _ _ _ 1)
  have f1 : w2.frozen? ⟨w1.heap.size, 1, none⟩ = false := (World.frozen?_of_block (a := ⟨w1.heap.size, 1, none⟩) (hR2.block _ hne)).trans (World.frozen?_alloc_new _ _ _ 1)
  have f0 : w2.frozen? ⟨w1.heap.size, 0, none⟩ = false := (World.frozen?_of_block (a := ⟨w1.heap.size, 0, none⟩) (hR2.block _ hne)).trans (World.frozen?_alloc_new _ _ _ 0)
  have HP3 := hide P3
  have hg : w2.heap.size = w1.heap.size + 1 := by have := hR2.size; simp at this; omega
  have C3 : Hid (∀ W, Calls Tryz.prog 173 #[.agg #[.int .i64 x, .int .i64 ((y : Int) + 1)]] W fun e w' => e = .returned (.int .i64 (64 - (x : Int) - ((y : Int) + 1))) ∧ w' = W.alloc (.cells #[.int .i64 x, .int .i64 ((y : Int) + 1)] 212)) := fun W => by
    have h := behind_any x (y + 1) W (by omega) (by omega)
    have e1 : ((y + 1 : Nat) : Int) = (y : Int) + 1 := by omega
    rw [e1] at h; exact h
  clear P2 P3 hB2 hR2 HP1 HR1 HT2
  go_wp2_with fail
  refine (C3.out _).mono ?_
  rintro e w3 ⟨rfl, hw3⟩
  have P4 : UP w3 ub s { u with pos := p2, st := q2 } := HP3.out.low fun k hk => by
    rw [hw3, heap_alloc_old _ _ (by simp; omega), heap_setCell_other _ _ _ _ (by show k ≠ w1.heap.size; omega)]
  have HR3 : Hid (Rd w w3 ub 0) := by rw [hw3]; exact (HR2.out.set_new (by omega) _).alloc _
  have e3 : ∀ o, w3.cell? ⟨w1.heap.size, o, none⟩ = (w2.setCell ⟨w1.heap.size, 1, none⟩ (.int .i64 ((y : Int) + 1))).cell? ⟨w1.heap.size, o, none⟩ := fun o => by
    rw [hw3]; exact World.cell?_of_block (a := ⟨w1.heap.size, o, none⟩) (heap_alloc_old _ _ (by simp; omega))
  have g3 : ∀ o, w3.frozen? ⟨w1.heap.size, o, none⟩ = w2.frozen? ⟨w1.heap.size, o, none⟩ := fun o => by
    rw [hw3]
    refine (World.frozen?_of_block (a := ⟨w1.heap.size, o, none⟩) (heap_alloc_old _ _ (by simp; omega))).trans ?_
    rw [World.frozen?_setCell]
  have m0 : w3.cell? ⟨w1.heap.size, 0, none⟩ = some (.int .i64 x) := by
    rw [e3, World.cell?_setCell_other _ _ _ _ (fun e => absurd (congrArg Addr.off e) (by simp))]; exact k0
  have m1 : w3.cell? ⟨w1.heap.size, 1, none⟩ = some (.int .i64 ((y : Int) + 1)) := by
    rw [e3]; exact World.cell?_setCell_same _ _ _ k1
  have n0 := (g3 0).trans f0
  have n1 := (g3 1).trans f1
  have c2 := P4.br.c2
  have c6 := P4.c6
  have c7 := P4.c7
  have fr2 := P4.fr 2
  have fr6 := P4.fr 6
  have fr7 := P4.fr 7
  have HP4 := hide P4
  have hws : w.heap.size ≤ w1.heap.size := by omega
  clear P4 hw3 e3 g3 k0 k1 f0 f1 HP3 HR2 C3 hg hs1
  generalize w1.heap.size = g at *
  have hne2 : ¬ ub = g := fun e => hne e.symm
  by_cases hle : x + (y + 1) ≤ 64
  · have hdec : decide ((64 : Int) - x - ((y : Int) + 1) < 0) = false := by simp; omega
    have HE2 := hide (HE.out.trans (if_pos hle))
    clear HE hle
    go_wp2
    go_end0
    have h := (HP4.out.setA x).setZ (y + 1)
    have e1 : ((y + 1 : Nat) : Int) = (y : Int) + 1 := by omega
    rw [e1] at h
    exact ⟨rfl, by rw [HE2.out]; exact h, (HR3.out.set_own _).set_own _⟩
  · have hdec : decide ((64 : Int) - x - ((y : Int) + 1) < 0) = true := by simp; omega
    have HE2 := hide (HE.out.trans (if_neg hle))
    clear HE hle
    go_wp2
    go_end0
    have h := (((HP4.out.setSt 1).low (w' := ((w3.setCell ⟨ub, 2, none⟩ (.int .i64 1)).setCell ⟨g, 0, none⟩ (.int .i64 0)).setCell ⟨g, 1, none⟩ (.int .i64 0)) fun k hk => by
      rw [heap_setCell_other _ _ _ _ (by show k ≠ g; omega), heap_setCell_other _ _ _ _ (by show k ≠ g; omega)]; rfl).setA 0).setZ 0
    exact ⟨rfl, by rw [HE2.out]; exact h, (((((HR3.out.set_own _).set_new hws _).set_new hws _).set_own _).set_own _)⟩
end Go.Proofs.YtamcclcbmenjdaaGreatDoor

/- A region that draws its order, walked under a condition S on the world that its last operation (number L, which waits for all the others) may break: S is asked behind every operation but that one. Laws of regions; no program. -/
namespace Go.Proofs.YtamcclcbmenjdaaGreatDoor
open Go

section
variable {P : Program} {ops : Array Oper} {Q : Exit → Act → World → Prop} {md : Region.Mode} {S : World → Prop} {L : Nat}

/-- Does number k wait for number i, by way of others? -/
def waits (md : Region.Mode) (ops : Array Oper) : Nat → Nat → Nat → Bool
  | 0, k, i => k == i
  | n + 1, k, i => k == i || (match ops[k]? with | some o => o.after.toList.any fun e => Region.binds md e && waits md ops n e.on i | none => false)
/-- Whoever has come up has those that he waits for behind him. -/
def Shutd (md : Region.Mode) (ops : Array Oper) (listed : Array Bool) : Prop :=
  ∀ k o, ops[k]? = some o → listed.getD k false = true → ∀ e ∈ o.after, Region.binds md e = true → listed.getD e.on false = true
def shutB (md : Region.Mode) (ops : Array Oper) (listed : Array Bool) : Bool :=
  (List.range ops.size).all fun k => !(listed.getD k false) || (match ops[k]? with | some o => o.after.toList.all fun e => !(Region.binds md e) || listed.getD e.on false | none => true)
theorem shutd_of (md : Region.Mode) (ops : Array Oper) (listed : Array Bool) (h : shutB md ops listed = true) : Shutd md ops listed := by
  intro k o ho hk e he hb
  have hlt : k < ops.size := by
    rcases Nat.lt_or_ge k ops.size with h | h
    · exact h
    · rw [Array.getElem?_eq_none h] at ho; cases ho
  have h1 := List.all_eq_true.1 h k (List.mem_range.2 hlt)
  rw [hk, ho] at h1
  simp only [Bool.not_true, Bool.false_or] at h1
  have h2 := (List.all_eq_true.1 h1) e (Array.mem_toList_iff.2 he)
  rw [hb] at h2
  simpa using h2
theorem waits_listed {listed : Array Bool} (hc : Shutd md ops listed) : ∀ (n k i : Nat), waits md ops n k i = true → listed.getD k false = true → listed.getD i false = true
  | 0, k, i, h, hk => by rw [waits, beq_iff_eq] at h; rw [← h]; exact hk
  | n + 1, k, i, h, hk => by
    rw [waits, Bool.or_eq_true] at h
    rcases h with h | h
    · rw [beq_iff_eq] at h; rw [← h]; exact hk
    · cases ho : ops[k]? with
      | none => rw [ho] at h; cases h
      | some o =>
        rw [ho] at h
        simp only at h
        obtain ⟨e, he, h2⟩ := List.any_eq_true.1 h
        rw [Bool.and_eq_true] at h2
        exact waits_listed hc n e.on i h2.2 (hc k o ho hk e (Array.mem_toList_iff.1 he) h2.1)
/-- He who may come up has those that he waits for behind him. -/
theorem waits_ready {listed : Array Bool} (hc : Shutd md ops listed) {n k i : Nat} (h : waits md ops n k i = true) (hne : k ≠ i) (hr : k ∈ Region.ready md ops listed) : listed.getD i false = true := by
  obtain ⟨_, o, ho, hall⟩ := mem_ready.1 hr
  cases n with
  | zero => rw [waits, beq_iff_eq] at h; exact absurd h hne
  | succ n =>
    rw [waits, Bool.or_eq_true] at h
    rcases h with h | h
    · rw [beq_iff_eq] at h; exact absurd h hne
    · rw [ho] at h
      simp only at h
      obtain ⟨e, he, h2⟩ := List.any_eq_true.1 h
      rw [Bool.and_eq_true] at h2
      exact waits_listed hc n e.on i h2.2 (hall e (Array.mem_toList_iff.1 he) h2.1)
theorem Shutd.step {listed : Array Bool} (hc : Shutd md ops listed) {j : Nat} (hj : j ∈ Region.ready md ops listed) : Shutd md ops (listed.setIfInBounds j true) := by
  intro k o ho hk e he hb
  refine getD_set_true ?_
  by_cases hjk : j = k
  · subst hjk
    obtain ⟨_, o', ho', hall⟩ := mem_ready.1 hj
    rw [ho] at ho'; cases ho'
    exact hall e he hb
  · rw [getD_set_ne false hjk] at hk
    exact hc k o ho hk e he hb

/-- Whatever comes up next, and S holds behind whatever comes up but L. -/
def anyL (P : Program) (md : Region.Mode) (ops : Array Oper) (Q : Exit → Act → World → Prop) (S : World → Prop) (L : Nat) : Nat → Array Bool → Act → World → Prop
  | 0, listed, a, w => Region.ready md ops listed = [] ∧ Q .normal a w
  | n + 1, listed, a, w => (Region.ready md ops listed = [] → Q .normal a w) ∧
      ∀ i ∈ Region.ready md ops listed, wpOp P ops Q i (fun a' w' => (i ≠ L → S w') ∧ anyL P md ops Q S L n (listed.setIfInBounds i true) a' w') a w

theorem anyL_any : ∀ (n : Nat) (listed : Array Bool) (a : Act) (w : World), anyL P md ops Q S L n listed a w → wpAny P md ops Q n listed a w
  | 0, _, _, _, h => h
  | n + 1, _, _, _, h => ⟨h.1, fun i hi => wpOp_mono (fun a' w' h' => anyL_any n _ a' w' h'.2) (h.2 i hi)⟩
theorem region_anyL {id : Nat} {a : Act} {w : World} (L : Nat) (hm : P.follows .mixedOrders = true) (hS : S w.drew) (h : S w.drew → anyL P .any ops Q S L ops.size (Array.replicate ops.size false) a w.drew) : (Code.region id ops true).wp P Q a w :=
  wp_region_any hm (anyL_any _ _ _ _ (h hS))

theorem anyL_first {i : Nat} {oi : Oper} {v : Value} (hi : ops[i]? = some oi) (hsel : ∀ (j : Nat) (o : Oper) cs b, ops[j]? = some o → o.op ≠ .select cs b)
    (hQ : ∀ c a w, Q (.panic c) (a.put oi.dst v) w → Q (.panic c) a w) (q : Nat) (hw : waits md ops q L i = true) (hLi : L ≠ i) (n : Nat) :
    ∀ (listed : Array Bool) (a : Act) (w : World), Shutd md ops listed →
      (∀ j oj, ops[j]? = some oj → j ≠ i → listed.getD j true = false → (∀ e ∈ oj.after, Region.binds md e = true → e.on ≠ i) → oi.apart ops oj = true) →
      i ∈ Region.ready md ops listed → YieldsIf P ops S oi v a → S w →
      anyL P md ops Q S L n (listed.setIfInBounds i true) (a.put oi.dst v) w → anyL P md ops Q S L (n + 1) listed a w := by
  induction n with
  | zero =>
    intro listed a w _ _ hr hy hS H
    refine ⟨fun h => absurd hr (by rw [h]; exact List.not_mem_nil), fun j hj => ?_⟩
    by_cases hji : j = i
    · subst hji; exact hy.wpOp hi hS ⟨fun _ => hS, H⟩
    · exact absurd (ready_mono hj hji) (by rw [H.1]; exact List.not_mem_nil)
  | succ n ih =>
    intro listed a w hc hfree hr hy hS H
    refine ⟨fun h => absurd hr (by rw [h]; exact List.not_mem_nil), fun j hj => ?_⟩
    by_cases hji : j = i
    · subst hji; exact hy.wpOp hi hS ⟨fun _ => hS, H⟩
    · obtain ⟨hjun, oj, hoj, hall⟩ := mem_ready.1 hj
      have hlist : listed.getD i true = false := (mem_ready.1 hr).1
      have hgone : listed.getD i false ≠ true := fun h1 => by
        rcases Nat.lt_or_ge i listed.size with h' | h'
        · simp [h'] at hlist h1; rw [hlist] at h1; cases h1
        · simp [Array.getElem?_eq_none h'] at h1
      have hnot : ∀ e ∈ oj.after, Region.binds md e = true → e.on ≠ i := fun e he hb heq => hgone (heq ▸ hall e he hb)
      have hjL : j ≠ L := fun e => hgone (waits_ready hc hw hLi (e ▸ hj))
      have h2 := wpOp_putIf hoj (hfree j oj hoj hji hjun hnot) (fun cs b => hsel i oi cs b hi) (fun cs b => hsel j oj cs b hoj) hQ hy (H.2 j (ready_mono hj hji))
      refine wpOp_mono (fun a' w' h3 => ?_) h2
      have hcomm : (listed.setIfInBounds i true).setIfInBounds j true = (listed.setIfInBounds j true).setIfInBounds i true := Array.setIfInBounds_comm _ _ (Ne.symm hji)
      have hS' : S w' := h3.2.1 hjL
      refine ⟨fun _ => hS', ih _ a' w' (hc.step hj) ?_ (ready_mono hr (Ne.symm hji)) h3.1 hS' (by rw [← hcomm]; exact h3.2.2)⟩
      intro k ok hk hki hun hno
      refine hfree k ok hk hki ?_ hno
      by_cases hjk : j = k
      · subst hjk; exact hjun
      · rw [getD_set_ne true hjk] at hun; exact hun
/-- Take number i first. -/
theorem anyL_take (i : Nat) {oi : Oper} {v : Value} {n : Nat} {listed : Array Bool} {a : Act} {w : World} (hi : ops[i]? = some oi)
    (hs : Region.noSelect ops = true) (hf : Region.free md ops listed i = true) (hr : (Region.ready md ops listed).contains i = true) (hw : waits md ops ops.size L i = true) (hLi : (L == i) = false) (hc : shutB md ops listed = true)
    (hQ : ∀ c a w, Q (.panic c) (a.put oi.dst v) w → Q (.panic c) a w) (hy : YieldsIf P ops S oi v a) (hS : S w)
    (h : anyL P md ops Q S L n (listed.setIfInBounds i true) (a.put oi.dst v) w) : anyL P md ops Q S L (n + 1) listed a w :=
  anyL_first hi (Region.noSelect_spec hs) hQ _ hw (by simpa using hLi) n listed a w (shutd_of _ _ _ hc) (Region.free_spec hi hf) (by simpa using hr) hy hS h
/-- One alone may come up. -/
theorem anyL_one (i : Nat) {o : Oper} {n : Nat} {listed : Array Bool} {a : Act} {w : World} (hr : Region.ready md ops listed = [i]) (ho : ops[i]? = some o) (hLi : (L == i) = false)
    (h : ∀ K' : Act → World → Prop, Shut (∀ a w, S w → (S w → anyL P md ops Q S L n (listed.setIfInBounds i true) a w) → K' a w) → if Region.wanted o (yielded ops a.tmps) = true then Oper.wp P o a w K' Q else K' (a.put o.dst undef) w) :
    anyL P md ops Q S L (n + 1) listed a w := by
  refine ⟨fun h0 => (by rw [hr] at h0; cases h0), fun j hj => ?_⟩
  rw [hr, List.mem_singleton] at hj
  subst hj
  exact wpOp_step ho fun K' hK => h K' fun a w hS hW => hK a w ⟨fun _ => hS, hW hS⟩
/-- The last. -/
theorem anyL_last (i : Nat) {o : Oper} {n : Nat} {listed : Array Bool} {a : Act} {w : World} (hr : Region.ready md ops listed = [i]) (ho : ops[i]? = some o) (hLi : (L == i) = true) (hd : Region.ready md ops (listed.setIfInBounds i true) = [])
    (h : ∀ K' : Act → World → Prop, Shut (∀ a w, Q .normal a w → K' a w) → if Region.wanted o (yielded ops a.tmps) = true then Oper.wp P o a w K' Q else K' (a.put o.dst undef) w) :
    anyL P md ops Q S L (n + 1) listed a w := by
  refine ⟨fun h0 => (by rw [hr] at h0; cases h0), fun j hj => ?_⟩
  rw [hr, List.mem_singleton] at hj
  subst hj
  refine wpOp_step ho fun K' hK => h K' fun a w hq => hK a w ⟨fun hne => absurd (beq_iff_eq.1 hLi).symm hne, ?_⟩
  cases n with
  | zero => exact ⟨hd, hq⟩
  | succ n => exact ⟨fun _ => hq, by rw [hd]; intro _ h; cases h⟩
end
end Go.Proofs.YtamcclcbmenjdaaGreatDoor

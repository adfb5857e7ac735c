/- The byte reader: labels, texts. -/
import Derived.Test.YtcidgfdiacehmaaDoorTextOf
import Derived.Deep.DeepAppendRoom
import Derived.OwnWalk
namespace Go.Proofs.YtcidgfdiacehmaaDoor
open Go.RowKit Go.Lib

theorem Tryd.infoLab : (Tryd.prog.info? 42).map (fun i => (i.zero, i.size, i.bytes)) = some (some (.agg #[.string ByteArray.empty, .string ByteArray.empty]), 2, 32) := by kernel_rfl
/-- A row of the call's own, where its block is as it was. -/
theorem own_kept {base e size n : Nat} {w w' : World} {v : Value} {xs : List Value} (h : w.ownsRow base e size v n xs) (hk : ∀ k, v.ownBlock = some k → w'.heap[k]? = w.heap[k]?) : w'.ownsRow base e size v n xs := by
  refine ⟨h.1, ?_⟩
  rcases h.2 with h2 | ⟨g, cap, cur, hv, hg, hh, r⟩
  · exact .inl h2
  · exact .inr ⟨g, cap, cur, hv, hg, by rw [hk g (by rw [hv]; rfl)]; exact hh, r⟩
theorem own_rd {base e size n yb yo : Nat} {w w' : World} {v : Value} {xs : List Value} (h : w.ownsRow base e size v n xs) (hr : Rd w w' yb yo) (hy : yb < base) : w'.ownsRow base e size v n xs :=
  own_kept h fun k hk => by have := World.ownsRow.lt h k hk; exact hr.block k this.2 (by omega)
theorem own_alloc {base e size n : Nat} {w : World} {v : Value} {xs : List Value} (h : w.ownsRow base e size v n xs) (ob : Obj) : (w.alloc ob).ownsRow base e size v n xs :=
  own_kept h fun k hk => heap_alloc_old w ob (World.ownsRow.lt h k hk).2
theorem Rd.grown {w w1 w2 : World} {yb yo : Nat} {r : Option Nat} (h : Rd w w1 yb yo) (k : w1.grownBy w2 r) (hr : ∀ b, r = some b → w.heap.size ≤ b) : Rd w w2 yb yo :=
  ⟨k.os.trans h.os, k.tape.trans h.tape, k.output.trans h.output, Nat.le_trans h.size k.size, fun i hi hy => (k.block i (Nat.lt_of_lt_of_le hi h.size) (fun e => by have := hr i e.symm; omega)).trans (h.block i hi hy)⟩
theorem Rd.alloc {w w1 : World} {yb yo : Nat} (h : Rd w w1 yb yo) (ob : Obj) : Rd w (w1.alloc ob) yb yo :=
  ⟨h.os, h.tape, h.output, Nat.le_trans h.size (by simp), fun i hi hy => (heap_alloc_old w1 ob (Nat.lt_of_lt_of_le hi h.size)).trans (h.block i hi hy)⟩
theorem Rd.below {w w1 w2 : World} {yb yo : Nat} (h : Rd w w1 yb yo) (k : Below w1.heap.size w1 w2) : Rd w w2 yb yo :=
  ⟨k.os.trans h.os, k.tape.trans h.tape, k.output.trans h.output, Nat.le_trans h.size k.size, fun i hi hy => (k.block i (Nat.lt_of_lt_of_le hi h.size)).trans (h.block i hi hy)⟩
theorem YR.kept {w w' : World} {yb yo st : Nat} {s : ByteArray} (h : YR w yb yo s st) (hk : w'.heap[yb]? = w.heap[yb]?) : YR w' yb yo s st :=
  ⟨(World.cell?_of_block (a := ⟨yb, yo, none⟩) hk).trans h.c0, (World.cell?_of_block (a := ⟨yb, yo + 1, none⟩) hk).trans h.c1, (World.frozen?_of_block (a := ⟨yb, yo, none⟩) hk).trans h.f0, (World.frozen?_of_block (a := ⟨yb, yo + 1, none⟩) hk).trans h.f1⟩
theorem YR.lt {w : World} {yb yo st : Nat} {s : ByteArray} (h : YR w yb yo s st) : yb < w.heap.size := World.block_lt_of_cell? w _ h.c0
theorem YR.alloc {w : World} {yb yo st : Nat} {s : ByteArray} (h : YR w yb yo s st) (ob : Obj) : YR (w.alloc ob) yb yo s st := h.kept (heap_alloc_old w ob h.lt)
theorem YR.grown {w w' : World} {yb yo st : Nat} {s : ByteArray} {r : Option Nat} (h : YR w yb yo s st) (k : w.grownBy w' r) (hr : some yb ≠ r) : YR w' yb yo s st := h.kept (k.block yb h.lt hr)

theorem cells_new (w : World) (l : List Value) (t : TypeId) : ∀ j u, l[j]? = some u → (w.alloc (.cells l.toArray t)).cell? ((⟨w.heap.size, 0, none⟩ : Addr).add j) = some u := by
  intro j u h
  have e : (⟨w.heap.size, 0, none⟩ : Addr).add j = ⟨w.heap.size, j, none⟩ := by simp [Addr.add]; exact fun h => h.symm
  rw [e, World.cell?_alloc_new]
  simpa using h
theorem one_two {x y : Value} (hx : x.oneCell' = true) (hy : y.oneCell' = true) : ∀ u ∈ [x, y], u.oneCell' = true := by
  intro u hu
  rcases List.mem_cons.1 hu with rfl | hu
  · exact hx
  · rw [List.mem_singleton.1 hu]; exact hy
theorem one_one {x : Value} (hx : x.oneCell' = true) : ∀ u ∈ [x], u.oneCell' = true := by
  intro u hu
  rw [List.mem_singleton.1 hu]; exact hx

def labCells (l : List Lab) : List Value := l.flatMap fun x => [.string x.1, .string x.2]
theorem labCells_snoc (l : List Lab) (x : Lab) : labCells (l ++ [x]) = labCells l ++ [.string x.1, .string x.2] := by simp [labCells]

set_option maxRecDepth 100000 in
set_option maxHeartbeats 400000 in
theorem labels_any (yb yo tb : Nat) (p : Rest) (tv : Value) (texts : List ByteArray) (w : World) (H : YR w yb yo p.1 p.2) (hs : Short 140737488355328 p) (ht : TextsAt w tv tb texts) (htb : tb ≠ yb) (htw : tb < w.heap.size) (htl : texts.length ≤ 1000) :
    Calls Tryd.prog 59 #[.pointer (some ⟨yb, yo, none⟩), tv] w fun e w' => ∃ v, e = .returned v ∧ w'.ownsRow w.heap.size 42 2 v (labsR texts p).1.length (labCells (labsR texts p).1) ∧
      YR w' yb yo (labsR texts p).2.1 (labsR texts p).2.2 ∧ Rd w w' yb yo := by
  obtain ⟨i0, hi, hz0, hz1, hz2⟩ := info_parts Tryd.infoLab
  have hyw := H.lt
  have C := hide (number_is yb yo p.2 p.1 4 w H hs.1)
  have hn4 := num_nat p 4
  have hs1 := short_num hs 4
  have HE : Hid (labsR texts p = seqTo (labR texts) (numR p.1 4 p.2).2 (numR p.1 4 p.2).1) := rfl
  have hn4' : (numR p.1 4 p.2).1 ≤ 4 := hn4
  generalize numR p.1 4 p.2 = r at *
  obtain ⟨n, p1⟩ := r
  simp only at C hn4' hs1 HE
  have HT := hide ht
  have HSh := hide hs1
  obtain ⟨ta, tc, hv⟩ : ∃ a c, tv = .slice a texts.length c := by
    rcases ht.shape with ⟨rfl, a, c, rfl⟩ | ⟨o, c, rfl, _⟩ <;> exact ⟨_, _, rfl⟩
  clear H ht hs hs1 hn4
  subst hv
  go_enter Tryd.func59, Tryd.ntmps59
  go_wp2_with fail
  refine C.out.mono ?_
  rintro e w1 ⟨rfl, hY, hR⟩
  have HY := hide hY
  have HR := hide hR
  have hsz := hR.size
  clear hY hR C
  go_wp2_with (first | (at_make; refine wpList_make_own _ rfl _ _ 43 rfl w.heap.size 42 i0 _ 2 Tryd.underlying43 hi hz0 hz1 .i64 .i64 _ n rfl rfl rfl (by rw [hz2]; omega) (by unfold maxLen; omega) hsz ?_; intro w2 hown2 hgrow2))
  have HY2 := hide (HY.out.grown hgrow2 (by simp))
  have HR2 := hide (HR.out.grown hgrow2 (by simp))
  have HO2 := hide hown2
  clear hown2 hgrow2 HY HR
  go_wp2
  go_loopw [6, 7, 13] (fun o _ i wr => ∃ k : Nat, k ≤ n ∧ i = .int .i64 k ∧ o = .slice (some ⟨w1.heap.size, 0, none⟩) k n ∧ wr.ownsRow w.heap.size 42 2 (.slice (some ⟨w1.heap.size, 0, none⟩) k n) k (labCells (seqTo (labR texts) p1 k).1) ∧
      YR wr yb yo (seqTo (labR texts) p1 k).2.1 (seqTo (labR texts) p1 k).2.2 ∧ Rd w wr yb yo) (fun _ _ i _ => n - (intOf i).toNat)
  case atStart => exact ⟨0, Nat.zero_le _, rfl, rfl, HO2.out, HY2.out, HR2.out⟩
  case round =>
    obtain ⟨k, hk, rfl, rfl, hO, hY, hR⟩ := hrel
    have HO := hide hO
    have HR := hide hR
    by_cases hlt : k < n
    · have hS := seqTo_inv (labR texts) (Short 140737488355328) (fun _ => short_lab texts) p1 HSh.out k
      have hT1 := HT.out.kept (hR.block tb htw htb)
      have hsz1 := hR.size
      have C1 := hide (textOf_any yb yo tb (seqTo (labR texts) p1 k).2 _ texts wr hY hS hT1 htb (by omega) htl)
      have hS2 := short_tof texts hS
      have HX : Hid ((seqTo (labR texts) p1 (k + 1)).1 = (seqTo (labR texts) p1 k).1 ++ [((tofR texts (seqTo (labR texts) p1 k).2).1, (tofR texts (tofR texts (seqTo (labR texts) p1 k).2).2).1)]) := rfl
      have HX2 : Hid ((seqTo (labR texts) p1 (k + 1)).2 = (tofR texts (tofR texts (seqTo (labR texts) p1 k).2).2).2) := rfl
      generalize (seqTo (labR texts) p1 k).2 = q at *
      generalize (seqTo (labR texts) p1 k).1 = done at *
      generalize tofR texts q = a1 at *
      obtain ⟨x1, q1⟩ := a1
      simp only at C1 hS2 HX HX2
      clear hO hY hR hS hT1 HY2 HR2 HO2
      go_wp2_with fail
      refine C1.out.mono ?_
      rintro e w3 ⟨rfl, hY3, hR3⟩
      have hR3' := HR.out.trans hR3
      have hT3 := HT.out.kept (hR3'.block tb htw htb)
      have hsz3 := hR3'.size
      have C2 := hide (textOf_any yb yo tb q1 _ texts w3 hY3 hS2 hT3 htb (by omega) htl)
      generalize tofR texts q1 = a2 at *
      obtain ⟨x2, q2⟩ := a2
      simp only at C2 HX HX2
      have HO3 := hide (own_rd HO.out hR3 hyw)
      have HR3 := hide hR3'
      clear hY3 hR3 hR3' hT3 C1 HO HR
      go_wp2_with fail
      refine C2.out.mono ?_
      rintro e w4 ⟨rfl, hY4, hR4⟩
      have HO4 := hide (own_rd HO3.out hR4 hyw)
      have HR4 := hide (HR3.out.trans hR4)
      have HY4 := hide hY4
      have hsz4 := HR4.out.size
      clear hY4 hR4 C2 HO3 HR3
      go_wp2_with (first | (at_builtin; refine wpList_append_own_spare _ rfl (.tmp 18) (.tmp 24) 43 rfl w.heap.size 42 i0 2 Tryd.underlying43 hi hz1 w1.heap.size k n _ rfl (own_alloc HO4.out _) ⟨w4.heap.size, 0, none⟩ 1 1 [.string x1, .string x2] rfl rfl (cells_new _ _ _) (one_two rfl rfl) (by omega) ?_))
      intro w5 hown5 hgrow5
      have hylt : some yb ≠ some w1.heap.size := fun e => by have := Option.some.inj e; omega
      have HO5 : Hid (w5.ownsRow w.heap.size 42 2 (.slice (some ⟨w1.heap.size, 0, none⟩) (k + 1) n) (k + 1) (labCells (seqTo (labR texts) p1 (k + 1)).1)) := by
        rw [HX.out, labCells_snoc]; exact hown5
      have HY5 : Hid (YR w5 yb yo (seqTo (labR texts) p1 (k + 1)).2.1 (seqTo (labR texts) p1 (k + 1)).2.2) := by
        rw [HX2.out]; exact (HY4.out.alloc _).grown hgrow5 hylt
      have HR5 := hide ((HR4.out.alloc (.cells #[.string x1, .string x2] 42)).grown hgrow5 (fun b e => by have := Option.some.inj e; omega))
      clear hown5 hgrow5 HO4 HY4 HR4 HX HX2
      go_wp2
      go_roundw
      case rel => exact ⟨k + 1, by omega, by go_num, rfl, HO5.out, HY5.out, HR5.out⟩
      case measure => simp [intOf]; omega
    · have hke : k = n := by omega
      subst hke
      have HY := hide hY
      clear hO hY hR
      go_wp2
      go_ret
      rw [HE.out]
      exact ⟨_, rfl, by rw [seqTo_length]; exact HO.out, HY.out, HR.out⟩
end Go.Proofs.YtcidgfdiacehmaaDoor

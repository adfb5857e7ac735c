/- unpackChunk. -/
import Derived.Test.YtcidgfdiacehmaaDoorTakeBits
import Derived.Test.YtcidgfdiacehmaaDoorLabels
namespace Go.Proofs.YtcidgfdiacehmaaDoor
open Go.RowKit Go.Lib

theorem Tryd.infoSam : (Tryd.prog.info? 56).map (fun i => (i.zero, i.size, i.bytes)) = some (some (.agg #[.int .i64 0, .int .u64 0]), 2, 16) := by kernel_rfl
def samCells (l : List (Int × Nat)) : List Value := l.flatMap fun x => [.int .i64 x.1, .int .u64 x.2]
theorem samCells_snoc (l : List (Int × Nat)) (x : Int × Nat) : samCells (l ++ [x]) = samCells l ++ [.int .i64 x.1, .int .u64 x.2] := by simp [samCells]
def lenOf : Value → Nat
  | .slice _ n _ => n
  | _ => 0
theorem UOk.step {s : ByteArray} {u : US} (h : UOk s u) : UOk s (stepU s u) := h.time.bit
theorem UOk.seq {s : ByteArray} {u : US} (h : UOk s u) (n : Nat) : UOk s (seqU s u n).2 := by
  induction n with
  | zero => exact h
  | succ n ih => exact ih.step
theorem own_mono {base base' e size n : Nat} {w : World} {v : Value} {xs : List Value} (h : w.ownsRow base e size v n xs) (hb : base' ≤ base) : w.ownsRow base' e size v n xs := by
  refine ⟨h.1, ?_⟩
  rcases h.2 with h2 | ⟨g, cap, cur, hv, hg, r⟩
  · exact .inl h2
  · exact .inr ⟨g, cap, cur, hv, Nat.le_trans hb hg, r⟩
theorem UP.init {w : World} {s : ByteArray} (hT : Tabs w) : UP (w.alloc (.cells #[.string s, .int .i64 0, .int .i64 0, .int .u64 0, .int .u64 0, .int .u64 0, .int .i64 0, .int .i64 0] 132)) w.heap.size s ⟨0, 0, 0, 0, 0, 0, 0⟩ := by
  have e : ∀ i, (w.alloc (.cells #[.string s, .int .i64 0, .int .i64 0, .int .u64 0, .int .u64 0, .int .u64 0, .int .i64 0, .int .i64 0] 132)).cell? ⟨w.heap.size, i, none⟩ = (#[Value.string s, .int .i64 0, .int .i64 0, .int .u64 0, .int .u64 0, .int .u64 0, .int .i64 0, .int .i64 0] : Array Value)[i]? := fun i => World.cell?_alloc_new _ _ _ i
  have f : ∀ i, (w.alloc (.cells #[.string s, .int .i64 0, .int .i64 0, .int .u64 0, .int .u64 0, .int .u64 0, .int .i64 0, .int .i64 0] 132)).frozen? ⟨w.heap.size, i, none⟩ = false := fun i => World.frozen?_alloc_new _ _ _ i
  exact ⟨⟨e 0, e 1, e 2, f 1, f 2⟩, e 3, e 4, e 5, e 6, e 7, f, hT.alloc _, hT.lt⟩
/-- What a call leaves that writes its own block ub alone, and makes new ones. -/
theorem below_rd {B ub yo : Nat} {w w1 w2 : World} (h : Below B w w1) (k : Rd w1 w2 ub yo) (hB : B ≤ w1.heap.size) (hu : B ≤ ub) : Below B w w2 :=
  h.trans ⟨k.os, k.tape, k.output, k.size, fun i hi => k.block i (by omega) (by omega)⟩
theorem UP.grown {w w' : World} {ub : Nat} {s : ByteArray} {u : US} {r : Option Nat} (h : UP w ub s u) (k : w.grownBy w' r) (hr : ∀ b, r = some b → ub < b) : UP w' ub s u := by
  have hp := h.hp
  have hl := h.lt
  have hb := k.block ub hl (fun e => by have := hr ub e.symm; omega)
  have e : ∀ o, w'.cell? ⟨ub, o, none⟩ = w.cell? ⟨ub, o, none⟩ := fun o => World.cell?_of_block (a := ⟨ub, o, none⟩) hb
  have f : ∀ o, w'.frozen? ⟨ub, o, none⟩ = w.frozen? ⟨ub, o, none⟩ := fun o => World.frozen?_of_block (a := ⟨ub, o, none⟩) hb
  exact ⟨⟨(e 0).trans h.br.c0, (e 1).trans h.br.c1, (e 2).trans h.br.c2, (f 1).trans h.br.f1, (f 2).trans h.br.f2⟩, (e 3).trans h.c3, (e 4).trans h.c4, (e 5).trans h.c5, (e 6).trans h.c6, (e 7).trans h.c7,
    fun o => (f o).trans (h.fr o), h.tabs.kept (k.block _ (by omega) (fun e => by have := hr _ e.symm; omega)) (k.block _ (by omega) (fun e => by have := hr _ e.symm; omega)), hp⟩
theorem below_grownAt {B : Nat} {w w1 w2 : World} {r : Option Nat} (h : Below B w w1) (k : w1.grownBy w2 r) (hB : B ≤ w1.heap.size) (hr : ∀ b, r = some b → B ≤ b) : Below B w w2 :=
  h.trans ⟨k.os, k.tape, k.output, k.size, fun i hi => k.block i (by omega) (fun e => by have := hr i e.symm; omega)⟩

set_option maxRecDepth 100000 in
set_option maxHeartbeats 400000 in
theorem unpackChunk_any (s : ByteArray) (n : Nat) (w : World) (hn1 : 1 ≤ n) (hn : n ≤ 40) (hs : s.size ≤ 140737488355328) (hT : Tabs w) :
    Calls Tryd.prog 72 #[.string s, .int .i64 n] w fun e w' => ∃ v, e = .returned (.tuple #[v, .int .i64 (chunkR s n).2.st]) ∧ w'.ownsRow w.heap.size 56 2 v n (samCells (chunkR s n).1) ∧ Below w.heap.size w w' := by
  obtain ⟨i0, hi, hz0, hz1, hz2⟩ := info_parts Tryd.infoSam
  have h3 := hT.lt
  have P0 := UP.init (s := s) hT
  have C1 := hide (take_any w.heap.size 0 0 0 64 s _ P0.br hs (by omega) (by omega))
  have hx := tk_lt s 0 0 64
  have hp1 := tk_pos s 0 0 64 (by omega)
  have HF : Hid (firstU s = ⟨(tk s (tk s 0 0 64).2.1 (tk s 0 0 64).2.2 64).2.1, (tk s (tk s 0 0 64).2.1 (tk s 0 0 64).2.2 64).2.2, (tk s 0 0 64).1, 0, (tk s (tk s 0 0 64).2.1 (tk s 0 0 64).2.2 64).1, 0, 0⟩) := rfl
  generalize tk s 0 0 64 = t1 at *
  obtain ⟨x, p1, q1⟩ := t1
  simp only at C1 hx hp1 HF
  have hy := tk_lt s p1 q1 64
  have hp2 := tk_pos s p1 q1 64 hp1
  have HT2 := hide (fun (w1 : World) (hB : BR w1 w.heap.size 0 s p1 q1) => take_any w.heap.size 0 p1 q1 64 s w1 hB hs hp1 (by omega))
  generalize tk s p1 q1 64 = t2 at *
  obtain ⟨y, p2, q2⟩ := t2
  simp only at hy hp2 HF HT2
  have HX := hide hx
  have HY := hide hy
  have HP2 := hide hp2
  have HP0 := hide P0
  have HB0 : Hid (Below w.heap.size w (w.alloc (.cells #[.string s, .int .i64 0, .int .i64 0, .int .u64 0, .int .u64 0, .int .u64 0, .int .i64 0, .int .i64 0] 132))) := (Below.refl _ _).alloc (Nat.le_refl _) _
  clear P0 hx hy hp1 hp2 hT
  go_enter Tryd.func72, Tryd.ntmps72
  go_wp2_with fail
  refine C1.out.mono ?_
  rintro e w1 ⟨rfl, hB1, hR1⟩
  have P1 := HP0.out.read hB1 hR1
  have c3 := P1.c3
  have fr := P1.fr
  have HP1 := hide (P1.setT x)
  have HB1 := hide ((below_rd HB0.out (Rd.of_read hR1) (by simp) (Nat.le_refl _)).setCell (p := ⟨w.heap.size, 3, none⟩) (Nat.le_refl _) (.int .u64 x))
  have hs1 : w.heap.size < w1.heap.size := P1.lt
  clear P1 hB1 hR1 HP0 HB0 C1
  go_wp2_with fail
  refine (HT2.out _ HP1.out.br).mono ?_
  rintro e w2 ⟨rfl, hB2, hR2⟩
  have P2 := HP1.out.read hB2 hR2
  have c5 := P2.c5
  have fr2 := P2.fr
  have P2' : UP (w2.setCell ⟨w.heap.size, 5, none⟩ (.int .u64 y)) w.heap.size s (firstU s) := by rw [HF.out]; exact P2.setB y
  have HP2b := hide P2'
  have HB2 := hide ((below_rd HB1.out (Rd.of_read hR2) (by simp; omega) (Nat.le_refl _)).setCell (p := ⟨w.heap.size, 5, none⟩) (Nat.le_refl _) (.int .u64 y))
  have hs2 : w.heap.size < w2.heap.size := P2.lt
  have HU : Hid (UOk s (firstU s)) := by
    show UOk s (firstU s)
    rw [HF.out]
    exact ⟨by have := HX.out; show x ≤ _; omega, Nat.zero_le _, by have := HY.out; show y ≤ _; omega, by show 0 + 0 ≤ 64; omega, HP2.out⟩
  clear P2 P2' hB2 hR2 HP1 HB1 HT2 c3 fr
  go_wp2_with (first | (at_make; refine wpList_make_own _ rfl _ _ 44 rfl (w.heap.size + 1) 56 i0 _ 2 Tryd.underlying44 hi hz0 hz1 .i64 .i64 _ n rfl rfl rfl (by rw [hz2]; omega) (by unfold maxLen; omega) (by simp; omega) ?_; intro w3 hown3 hgrow3))
  have esz : (w2.setCell ⟨w.heap.size, 5, none⟩ (.int .u64 y)).heap.size = w2.heap.size := by simp
  rw [esz] at hown3
  have HP3 := hide (HP2b.out.grown hgrow3 (by simp))
  have HB3 := hide (below_grownAt HB2.out hgrow3 (by simp; omega) (by simp))
  have HO3 := hide hown3
  have hs3 : w2.heap.size ≤ w3.heap.size := by have := hgrow3.size; simpa using this
  clear hown3 hgrow3 HP2b HB2 c5 fr2
  have C4 := hide (sample_any w.heap.size s (firstU s) w3 HP3.out HU.out.ht)
  go_wp2_with fail
  refine C4.out.mono ?_
  rintro e w4 ⟨rfl, hb4⟩
  have HP4 := hide (HP3.out.kept fun k hk => hb4.block k hk)
  have HO4 := hide (own_kept HO3.out fun k hk => hb4.block k (World.ownsRow.lt HO3.out k hk).2)
  have HB4 := hide (HB3.out.trans (hb4.mono HB3.out.size))
  have hs4 := hb4.size
  clear hb4 HP3 HO3 HB3 C4
  clear esz
  generalize w2.heap.size = g at *
  go_wp2_with (first | (at_builtin; refine wpList_append_own_spare _ rfl (.tmp 21) (.tmp 23) 44 rfl (w.heap.size + 1) 56 i0 2 Tryd.underlying44 hi hz1 g 0 n _ rfl (own_alloc HO4.out _) ⟨w4.heap.size, 0, none⟩ 1 1 [.int .i64 (toI (firstU s).t), .int .u64 (firstU s).b] rfl rfl (cells_new _ _ _) (one_two rfl rfl) (by omega) ?_))
  intro w5 hown5 hgrow5
  have HO5 : Hid (w5.ownsRow (w.heap.size + 1) 56 2 (.slice (some ⟨g, 0, none⟩) (0 + 1) n) (0 + 1) (samCells (seqU s (firstU s) 0).1)) := hown5
  have HP5 := hide ((HP4.out.alloc (.cells #[.int .i64 (toI (firstU s).t), .int .u64 (firstU s).b] 56)).grown hgrow5 (fun b e => by have := Option.some.inj e; omega))
  have HB5 := hide (below_grownAt (HB4.out.alloc HB4.out.size (.cells #[.int .i64 (toI (firstU s).t), .int .u64 (firstU s).b] 56)) hgrow5 (by have := HB4.out.size; simp; omega) (fun b e => by have := Option.some.inj e; omega))
  clear hown5 hgrow5 HO4 HP4 HB4
  go_wp2
  go_loopw [7] (fun o wr => ∃ k : Nat, k + 1 ≤ n ∧ o = .slice (some ⟨g, 0, none⟩) (k + 1) n ∧ wr.ownsRow (w.heap.size + 1) 56 2 (.slice (some ⟨g, 0, none⟩) (k + 1) n) (k + 1) (samCells (seqU s (firstU s) k).1) ∧ UP wr w.heap.size s (seqU s (firstU s) k).2 ∧ Below w.heap.size w wr) (fun o _ => n - lenOf o)
  case atStart => exact ⟨0, hn1, rfl, HO5.out, HP5.out, HB5.out⟩
  case round =>
    obtain ⟨k, hk, rfl, hO, hP, hB⟩ := hrel
    have HO := hide hO
    have HB := hide hB
    have HU1 := hide (HU.out.seq k)
    have hsr := hP.lt
    clear HO5 HP5 HB5
    by_cases hlt : k + 1 < n
    · have C5 := hide (takeTime_any w.heap.size s _ wr hP HU1.out hs)
      have HU2 := hide HU1.out.time
      have HU3 := hide HU1.out.step
      have HX1 : Hid ((seqU s (firstU s) (k + 1)).1 = (seqU s (firstU s) k).1 ++ [(toI (bitU s (timeU s (seqU s (firstU s) k).2)).t, (bitU s (timeU s (seqU s (firstU s) k).2)).b)]) := rfl
      have HX2 : Hid ((seqU s (firstU s) (k + 1)).2 = bitU s (timeU s (seqU s (firstU s) k).2)) := rfl
      have HU4 : Hid ((bitU s (timeU s (seqU s (firstU s) k).2)).t ≤ 18446744073709551615) := HU3.out.ht
      generalize (seqU s (firstU s) k).2 = u at *
      generalize (seqU s (firstU s) k).1 = done at *
      clear hO hP hB HU3
      go_wp2_with fail
      refine C5.out.mono ?_
      rintro e w6 ⟨rfl, hP6, hR6⟩
      have C6 := hide (takeBits_any w.heap.size s _ w6 hP6 HU2.out hs)
      have HO6 := hide (own_rd HO.out hR6 (by omega))
      have HB6 := hide (below_rd HB.out hR6 HB.out.size (Nat.le_refl _))
      clear hP6 hR6 C5 HO HB HU1
      generalize bitU s (timeU s u) = u' at *
      go_wp2_with fail
      refine C6.out.mono ?_
      rintro e w7 ⟨rfl, hP7, hR7⟩
      have C7 := hide (sample_any w.heap.size s u' w7 hP7 HU4.out)
      have HO7 := hide (own_rd HO6.out hR7 (by omega))
      have HB7 := hide (below_rd HB6.out hR7 HB6.out.size (Nat.le_refl _))
      have HP7 := hide hP7
      clear hP7 hR7 C6 HO6 HB6 HU2
      go_wp2_with fail
      refine C7.out.mono ?_
      rintro e w8 ⟨rfl, hb8⟩
      have HP8 := hide (HP7.out.kept fun k hk => hb8.block k hk)
      have HO8 := hide (own_kept HO7.out fun k hk => hb8.block k (World.ownsRow.lt HO7.out k hk).2)
      have HB8 := hide (HB7.out.trans (hb8.mono HB7.out.size))
      have hs8 := HB8.out.size
      have hg8 : w.heap.size + 1 ≤ g ∧ g < w8.heap.size := World.ownsRow.lt HO8.out g rfl
      clear hb8 HP7 HO7 HB7 C7
      go_wp2_with (first | (at_builtin; refine wpList_append_own_spare _ rfl (.tmp 31) (.tmp 33) 44 rfl (w.heap.size + 1) 56 i0 2 Tryd.underlying44 hi hz1 g (k + 1) n _ rfl (own_alloc HO8.out _) ⟨w8.heap.size, 0, none⟩ 1 1 [.int .i64 (toI u'.t), .int .u64 u'.b] rfl rfl (cells_new _ _ _) (one_two rfl rfl) (by omega) ?_))
      intro w9 hown9 hgrow9
      have HO9 : Hid (w9.ownsRow (w.heap.size + 1) 56 2 (.slice (some ⟨g, 0, none⟩) (k + 1 + 1) n) (k + 1 + 1) (samCells (seqU s (firstU s) (k + 1)).1)) := by
        rw [HX1.out, samCells_snoc]; exact hown9
      have HP9 : Hid (UP w9 w.heap.size s (seqU s (firstU s) (k + 1)).2) := by
        rw [HX2.out]; exact (HP8.out.alloc _).grown hgrow9 (fun b e => by have := Option.some.inj e; omega)
      have HB9 := hide (below_grownAt (HB8.out.alloc HB8.out.size (.cells #[.int .i64 (toI u'.t), .int .u64 u'.b] 56)) hgrow9 (by simp; omega) (fun b e => by have := Option.some.inj e; omega))
      clear hown9 hgrow9 HO8 HP8 HB8 HX1 HX2
      go_wp2
      go_roundw
      case rel => exact ⟨k + 1, by omega, rfl, HO9.out, HP9.out, HB9.out⟩
      case measure => simp [lenOf]; omega
    · have hke : k + 1 = n := by omega
      have c2 := hP.br.c2
      have HC : Hid (chunkR s n = seqU s (firstU s) k) := by show _ = _; unfold chunkR; rw [show n - 1 = k by omega]
      clear hO hB hP
      go_wp2
      go_quiet (fail)
      go_wp2
      go_ret2
      rw [HC.out]
      refine ⟨.slice (some ⟨g, 0, none⟩) (k + 1) n, rfl, ?_, below_drewN HB.out _⟩
      have h := own_mono HO.out (Nat.le_succ _)
      rw [hke] at h ⊢
      exact h
end Go.Proofs.YtcidgfdiacehmaaDoor

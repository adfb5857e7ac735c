/- 'choirkeep.Level', for any list of steps (100 of them are done): when all are up, nothing is under way, and each has told each other one, all have the same, and compacted logs are the same bytes. The first form's statement and its card: no condition beside the row's own. -/
import Derived.Test.YtamcclcbmenjdaaGreatDoorLevelG17
import Derived.Test.YtamcclcbmenjdaaGreatDoorLevelG15
import Derived.Test.YtamcclcbmenjdaaGreatDoorLevelG7
/- unpackChunk. -/
namespace Go.Proofs.YtamcclcbmenjdaaGreatDoor
open Go.RowKit Go.Lib

def lenOf : Value → Nat
  | .slice _ n _ => n
  | _ => 0
theorem UOk.step {s : ByteArray} {u : US} (h : UOk s u) : UOk s (stepU s u) := h.time.bit
theorem UOk.seq {s : ByteArray} {u : US} (h : UOk s u) (n : Nat) : UOk s (seqU s u n).2 := by
  induction n with
  | zero => exact h
  | succ n ih => exact ih.step
theorem UP.init {w : World} {s : ByteArray} (hT : Tabs w) : UP (w.alloc (.cells #[.string s, .int .i64 0, .int .i64 0, .int .u64 0, .int .u64 0, .int .u64 0, .int .i64 0, .int .i64 0] 216)) w.heap.size s ⟨0, 0, 0, 0, 0, 0, 0⟩ := by
  have e : ∀ i, (w.alloc (.cells #[.string s, .int .i64 0, .int .i64 0, .int .u64 0, .int .u64 0, .int .u64 0, .int .i64 0, .int .i64 0] 216)).cell? ⟨w.heap.size, i, none⟩ = (#[Value.string s, .int .i64 0, .int .i64 0, .int .u64 0, .int .u64 0, .int .u64 0, .int .i64 0, .int .i64 0] : Array Value)[i]? := fun i => World.cell?_alloc_new _ _ _ i
  have f : ∀ i, (w.alloc (.cells #[.string s, .int .i64 0, .int .i64 0, .int .u64 0, .int .u64 0, .int .u64 0, .int .i64 0, .int .i64 0] 216)).frozen? ⟨w.heap.size, i, none⟩ = false := fun i => World.frozen?_alloc_new _ _ _ i
  exact ⟨⟨e 0, e 1, e 2, f 1, f 2⟩, e 3, e 4, e 5, e 6, e 7, f, hT.alloc _, hT.lt⟩
/-- What a call leaves that writes its own block ub alone, and makes new ones. -/
theorem below_rd {B ub yo : Nat} {w w1 w2 : World} (h : Below B w w1) (k : Rd w1 w2 ub yo) (hB : B ≤ w1.heap.size) (hu : B ≤ ub) : Below B w w2 :=
  h.trans ⟨k.os, k.tape, k.output, k.size, fun i hi => k.block i (by omega) (by omega)⟩
theorem UP.grown {w w' : World} {ub : Nat} {s : ByteArray} {u : US} {r : Option Nat} (h : UP w ub s u) (k : w.grownBy w' r) (hr : ∀ b, r = some b → ub < b) : UP w' ub s u := by
  have hp := h.hp
  have hl := h.lt
  have hb := k.block ub hl (fun e => by have := hr ub e.symm; omega)
  have e : ∀ o, w'.cell? ⟨ub, o, none⟩ = w.cell? ⟨ub, o, none⟩ := fun o => World.cell?_of_block (a := ⟨ub, o, none⟩) hb
  have f : ∀ o, w'.frozen? ⟨ub, o, none⟩ = w.frozen? ⟨ub, o, none⟩ := fun o => World.frozen?_of_block (a := ⟨ub, o, none⟩) hb
  exact ⟨⟨(e 0).trans h.br.c0, (e 1).trans h.br.c1, (e 2).trans h.br.c2, (f 1).trans h.br.f1, (f 2).trans h.br.f2⟩, (e 3).trans h.c3, (e 4).trans h.c4, (e 5).trans h.c5, (e 6).trans h.c6, (e 7).trans h.c7,
    fun o => (f o).trans (h.fr o), h.tabs.kept (k.block _ (by omega) (fun e => by have := hr _ e.symm; omega)) (k.block _ (by omega) (fun e => by have := hr _ e.symm; omega)), hp⟩
set_option maxRecDepth 100000 in
set_option maxHeartbeats 400000 in
theorem unpackChunk_any (s : ByteArray) (n : Nat) (w : World) (hn1 : 1 ≤ n) (hn : n ≤ 40) (hs : s.size ≤ 140737488355328) (hT : Tabs w) :
    Calls Tryz.prog 134 #[.string s, .int .i64 n] w fun e w' => ∃ v, e = .returned (.tuple #[v, .int .i64 (chunkR s n).2.st]) ∧ w'.ownsRow w.heap.size 34 2 v n (samCells (chunkR s n).1) ∧ Below w.heap.size w w' := by
  obtain ⟨i0, hi, hz0, hz1, hz2⟩ := info_parts Tryz.infoSam
  have h3 := hT.lt
  have P0 := UP.init (s := s) hT
  have C1 := hide (take_any w.heap.size 0 0 0 64 s _ P0.br hs (by omega) (by omega))
  have hx := tk_lt s 0 0 64
  have hp1 := tk_pos s 0 0 64 (by omega)
  have HF : Hid (firstU s = ⟨(tk s (tk s 0 0 64).2.1 (tk s 0 0 64).2.2 64).2.1, (tk s (tk s 0 0 64).2.1 (tk s 0 0 64).2.2 64).2.2, (tk s 0 0 64).1, 0, (tk s (tk s 0 0 64).2.1 (tk s 0 0 64).2.2 64).1, 0, 0⟩) := rfl
  generalize tk s 0 0 64 = t1 at *
  obtain ⟨x, p1, q1⟩ := t1
  simp only at C1 hx hp1 HF
  have hy := tk_lt s p1 q1 64
  have hp2 := tk_pos s p1 q1 64 hp1
  have HT2 := hide (fun (w1 : World) (hB : BR w1 w.heap.size 0 s p1 q1) => take_any w.heap.size 0 p1 q1 64 s w1 hB hs hp1 (by omega))
  generalize tk s p1 q1 64 = t2 at *
  obtain ⟨y, p2, q2⟩ := t2
  simp only at hy hp2 HF HT2
  have HX := hide hx
  have HY := hide hy
  have HP2 := hide hp2
  have HP0 := hide P0
  have HB0 : Hid (Below w.heap.size w (w.alloc (.cells #[.string s, .int .i64 0, .int .i64 0, .int .u64 0, .int .u64 0, .int .u64 0, .int .i64 0, .int .i64 0] 216))) := (Below.refl _ _).alloc (Nat.le_refl _) _
  clear P0 hx hy hp1 hp2 hT
  go_enter Tryz.func134, Tryz.ntmps134
  go_wp2_with fail
  refine C1.out.mono ?_
  rintro e w1 ⟨rfl, hB1, hR1⟩
  have P1 := HP0.out.read hB1 hR1
  have c3 := P1.c3
  have fr := P1.fr
  have HP1 := hide (P1.setT x)
  have HB1 := hide ((below_rd HB0.out (Rd.of_read hR1) (by simp) (Nat.le_refl _)).setCell (p := ⟨w.heap.size, 3, none⟩) (Nat.le_refl _) (.int .u64 x))
  have hs1 : w.heap.size < w1.heap.size := P1.lt
  clear P1 hB1 hR1 HP0 HB0 C1
  go_wp2_with fail
  refine (HT2.out _ HP1.out.br).mono ?_
  rintro e w2 ⟨rfl, hB2, hR2⟩
  have P2 := HP1.out.read hB2 hR2
  have c5 := P2.c5
  have fr2 := P2.fr
  have P2' : UP (w2.setCell ⟨w.heap.size, 5, none⟩ (.int .u64 y)) w.heap.size s (firstU s) := by rw [HF.out]; exact P2.setB y
  have HP2b := hide P2'
  have HB2 := hide ((below_rd HB1.out (Rd.of_read hR2) (by simp; omega) (Nat.le_refl _)).setCell (p := ⟨w.heap.size, 5, none⟩) (Nat.le_refl _) (.int .u64 y))
  have hs2 : w.heap.size < w2.heap.size := P2.lt
  have HU : Hid (UOk s (firstU s)) := by
    show UOk s (firstU s)
    rw [HF.out]
    exact ⟨by have := HX.out; show x ≤ _; omega, Nat.zero_le _, by have := HY.out; show y ≤ _; omega, by show 0 + 0 ≤ 64; omega, HP2.out⟩
  clear P2 P2' hB2 hR2 HP1 HB1 HT2 c3 fr
  go_wp2_with (first | (at_make; refine wpList_make_own _ rfl _ _ 35 rfl (w.heap.size + 1) 34 i0 _ 2 Tryz.underlying35 hi hz0 hz1 .i64 .i64 _ n rfl rfl rfl (by rw [hz2]; omega) (by unfold maxLen; omega) (by simp; omega) ?_; intro w3 hown3 hgrow3))
  have esz : (w2.setCell ⟨w.heap.size, 5, none⟩ (.int .u64 y)).heap.size = w2.heap.size := by simp
  rw [esz] at hown3
  have HP3 := hide (HP2b.out.grown hgrow3 (by simp))
  have HB3 := hide (below_grownAt HB2.out hgrow3 (by simp; omega) (by simp))
  have HO3 := hide hown3
  have hs3 : w2.heap.size ≤ w3.heap.size := by have := hgrow3.size; simpa using this
  clear hown3 hgrow3 HP2b HB2 c5 fr2
  have C4 := hide (sample_any w.heap.size s (firstU s) w3 HP3.out HU.out.ht)
  go_wp2_with fail
  refine C4.out.mono ?_
  rintro e w4 ⟨rfl, hb4⟩
  have HP4 := hide (HP3.out.kept fun k hk => hb4.block k hk)
  have HO4 := hide (own_kept HO3.out fun k hk => hb4.block k (World.ownsRow.lt HO3.out k hk).2)
  have HB4 := hide (HB3.out.trans (hb4.mono HB3.out.size))
  have hs4 := hb4.size
  clear hb4 HP3 HO3 HB3 C4
  clear esz
  generalize w2.heap.size = g at *
  go_wp2_with (first | (at_builtin; refine wpList_append_own_spare _ rfl (.tmp 21) (.tmp 23) 35 rfl (w.heap.size + 1) 34 i0 2 Tryz.underlying35 hi hz1 g 0 n _ rfl (own_alloc HO4.out _) ⟨w4.heap.size, 0, none⟩ 1 1 [.int .i64 (toI (firstU s).t), .int .u64 (firstU s).b] rfl rfl (cells_new _ _ _) (one_two rfl rfl) (by omega) ?_))
  intro w5 hown5 hgrow5
  have HO5 : Hid (w5.ownsRow (w.heap.size + 1) 34 2 (.slice (some ⟨g, 0, none⟩) (0 + 1) n) (0 + 1) (samCells (seqU s (firstU s) 0).1)) := hown5
  have HP5 := hide ((HP4.out.alloc (.cells #[.int .i64 (toI (firstU s).t), .int .u64 (firstU s).b] 34)).grown hgrow5 (fun b e => by have := Option.some.inj e; omega))
  have HB5 := hide (below_grownAt (HB4.out.alloc HB4.out.size (.cells #[.int .i64 (toI (firstU s).t), .int .u64 (firstU s).b] 34)) hgrow5 (by have := HB4.out.size; simp; omega) (fun b e => by have := Option.some.inj e; omega))
  clear hown5 hgrow5 HO4 HP4 HB4
  go_wp2
  go_loopw [7] (fun o wr => ∃ k : Nat, k + 1 ≤ n ∧ o = .slice (some ⟨g, 0, none⟩) (k + 1) n ∧ wr.ownsRow (w.heap.size + 1) 34 2 (.slice (some ⟨g, 0, none⟩) (k + 1) n) (k + 1) (samCells (seqU s (firstU s) k).1) ∧ UP wr w.heap.size s (seqU s (firstU s) k).2 ∧ Below w.heap.size w wr) (fun o _ => n - lenOf o)
  case atStart => exact ⟨0, hn1, rfl, HO5.out, HP5.out, HB5.out⟩
  case round =>
    obtain ⟨k, hk, rfl, hO, hP, hB⟩ := hrel
    have HO := hide hO
    have HB := hide hB
    have HU1 := hide (HU.out.seq k)
    have hsr := hP.lt
    clear HO5 HP5 HB5
    by_cases hlt : k + 1 < n
    · have C5 := hide (takeTime_any w.heap.size s _ wr hP HU1.out hs)
      have HU2 := hide HU1.out.time
      have HU3 := hide HU1.out.step
      have HX1 : Hid ((seqU s (firstU s) (k + 1)).1 = (seqU s (firstU s) k).1 ++ [(toI (bitU s (timeU s (seqU s (firstU s) k).2)).t, (bitU s (timeU s (seqU s (firstU s) k).2)).b)]) := rfl
      have HX2 : Hid ((seqU s (firstU s) (k + 1)).2 = bitU s (timeU s (seqU s (firstU s) k).2)) := rfl
      have HU4 : Hid ((bitU s (timeU s (seqU s (firstU s) k).2)).t ≤ 18446744073709551615) := HU3.out.ht
      generalize (seqU s (firstU s) k).2 = u at *
      generalize (seqU s (firstU s) k).1 = done at *
      clear hO hP hB HU3
      go_wp2_with fail
      refine C5.out.mono ?_
      rintro e w6 ⟨rfl, hP6, hR6⟩
      have C6 := hide (takeBits_any w.heap.size s _ w6 hP6 HU2.out hs)
      have HO6 := hide (own_rd HO.out hR6 (by omega))
      have HB6 := hide (below_rd HB.out hR6 HB.out.size (Nat.le_refl _))
      clear hP6 hR6 C5 HO HB HU1
      generalize bitU s (timeU s u) = u' at *
      go_wp2_with fail
      refine C6.out.mono ?_
      rintro e w7 ⟨rfl, hP7, hR7⟩
      have C7 := hide (sample_any w.heap.size s u' w7 hP7 HU4.out)
      have HO7 := hide (own_rd HO6.out hR7 (by omega))
      have HB7 := hide (below_rd HB6.out hR7 HB6.out.size (Nat.le_refl _))
      have HP7 := hide hP7
      clear hP7 hR7 C6 HO6 HB6 HU2
      go_wp2_with fail
      refine C7.out.mono ?_
      rintro e w8 ⟨rfl, hb8⟩
      have HP8 := hide (HP7.out.kept fun k hk => hb8.block k hk)
      have HO8 := hide (own_kept HO7.out fun k hk => hb8.block k (World.ownsRow.lt HO7.out k hk).2)
      have HB8 := hide (HB7.out.trans (hb8.mono HB7.out.size))
      have hs8 := HB8.out.size
      have hg8 : w.heap.size + 1 ≤ g ∧ g < w8.heap.size := World.ownsRow.lt HO8.out g rfl
      clear hb8 HP7 HO7 HB7 C7
      go_wp2_with (first | (at_builtin; refine wpList_append_own_spare _ rfl (.tmp 31) (.tmp 33) 35 rfl (w.heap.size + 1) 34 i0 2 Tryz.underlying35 hi hz1 g (k + 1) n _ rfl (own_alloc HO8.out _) ⟨w8.heap.size, 0, none⟩ 1 1 [.int .i64 (toI u'.t), .int .u64 u'.b] rfl rfl (cells_new _ _ _) (one_two rfl rfl) (by omega) ?_))
      intro w9 hown9 hgrow9
      have HO9 : Hid (w9.ownsRow (w.heap.size + 1) 34 2 (.slice (some ⟨g, 0, none⟩) (k + 1 + 1) n) (k + 1 + 1) (samCells (seqU s (firstU s) (k + 1)).1)) := by
        rw [HX1.out, samCells_snoc]; exact hown9
      have HP9 : Hid (UP w9 w.heap.size s (seqU s (firstU s) (k + 1)).2) := by
        rw [HX2.out]; exact (HP8.out.alloc _).grown hgrow9 (fun b e => by have := Option.some.inj e; omega)
      have HB9 := hide (below_grownAt (HB8.out.alloc HB8.out.size (.cells #[.int .i64 (toI u'.t), .int .u64 u'.b] 34)) hgrow9 (by simp; omega) (fun b e => by have := Option.some.inj e; omega))
      clear hown9 hgrow9 HO8 HP8 HB8 HX1 HX2
      go_wp2
      go_roundw
      case rel => exact ⟨k + 1, by omega, rfl, HO9.out, HP9.out, HB9.out⟩
      case measure => simp [lenOf]; omega
    · have hke : k + 1 = n := by omega
      have c2 := hP.br.c2
      have HC : Hid (chunkR s n = seqU s (firstU s) k) := by show _ = _; unfold chunkR; rw [show n - 1 = k by omega]
      clear hO hB hP
      go_wp2
      go_quiet (fail)
      go_wp2
      go_ret2
      rw [HC.out]
      refine ⟨.slice (some ⟨g, 0, none⟩) (k + 1) n, rfl, ?_, below_drewN HB.out _⟩
      have h := own_mono HO.out (Nat.le_succ _)
      rw [hke] at h ⊢
      exact h
end Go.Proofs.YtamcclcbmenjdaaGreatDoor

/- The byte reader: samples. -/
namespace Go.Proofs.YtamcclcbmenjdaaGreatDoor
open Go.RowKit Go.Lib

theorem Tabs.rd {w w' : World} {yb yo : Nat} (h : Tabs w) (hr : Rd w w' yb yo) (hy : 3 ≤ yb) : Tabs w' := by
  have h3 := h.lt
  exact h.kept (hr.block _ (by omega) (by omega)) (hr.block _ (by omega) (by omega))
theorem chunkR_length (s : ByteArray) (n : Nat) (h : 1 ≤ n) : (chunkR s n).1.length = n := by
  unfold chunkR; rw [seqU_length]; omega

set_option maxRecDepth 100000 in
set_option maxHeartbeats 400000 in
theorem samples_any (yb yo : Nat) (p : Rest) (w : World) (H : YR w yb yo p.1 p.2) (hs : Short 140737488355328 p) (hT : Tabs w) (hy3 : 3 ≤ yb) :
    Calls Tryz.prog 109 #[.pointer (some ⟨yb, yo, none⟩)] w fun e w' => ∃ v, e = .returned v ∧ w'.ownsRow w.heap.size 34 2 v (samplesR p).1.length (samCells (samplesR p).1) ∧
      YR w' yb yo (samplesR p).2.1 (samplesR p).2.2 ∧ Rd w w' yb yo := by
  have hyw := H.lt
  have C1 := hide (number_is yb yo p.2 p.1 40 w H hs.1)
  have hn : (numR p.1 40 p.2).1 ≤ 40 := num_nat p 40
  have hs1 := short_num hs 40
  have HE : Hid (samplesR p = if (numR p.1 40 p.2).1 = 0 then ([], gone) else if (chunkR (textR (numR p.1 40 p.2).2.1 (numR p.1 40 p.2).2.1.size (numR p.1 40 p.2).2.2).1 (numR p.1 40 p.2).1).2.st = 1 then ((chunkR (textR (numR p.1 40 p.2).2.1 (numR p.1 40 p.2).2.1.size (numR p.1 40 p.2).2.2).1 (numR p.1 40 p.2).1).1, gone) else ((chunkR (textR (numR p.1 40 p.2).2.1 (numR p.1 40 p.2).2.1.size (numR p.1 40 p.2).2.2).1 (numR p.1 40 p.2).1).1, (textR (numR p.1 40 p.2).2.1 (numR p.1 40 p.2).2.1.size (numR p.1 40 p.2).2.2).2)) := rfl
  generalize numR p.1 40 p.2 = r at *
  obtain ⟨n, s1, q1⟩ := r
  simp only at C1 hn hs1 HE
  have hx := Nat.le_trans (textR_len s1 s1.size q1) hs1.1
  have HT := hide hT
  clear H hs hT
  go_enter Tryz.func109, Tryz.ntmps109
  go_wp2_with fail
  refine C1.out.mono ?_
  rintro e w1 ⟨rfl, hY1, hR1⟩
  have c0 := hY1.c0
  have C2 := hide (text_is yb yo q1 s1 s1.size w1 hY1 hs1.1)
  have HR1 := hide hR1
  generalize textR s1 s1.size q1 = t at *
  obtain ⟨x, p2⟩ := t
  simp only at C2 hx HE
  clear hY1 hR1 C1 hs1
  go_wp2_with fail
  refine C2.out.mono ?_
  rintro e w2 ⟨rfl, hY2, hR2⟩
  have HR2 := hide (HR1.out.trans hR2)
  have HY2 := hide hY2
  clear hR2 C2 HR1 c0
  by_cases h0 : n = 0
  · have CF := hide (fail_any yb yo p2.2 p2.1 w2 hY2)
    have HE2 := hide (HE.out.trans (if_pos h0))
    subst h0
    clear hY2 HE HY2
    go_wp2_with fail
    refine CF.out.mono ?_
    rintro e w3 ⟨rfl, hY3, hR3⟩
    have HY3 := hide hY3
    have HR3 := hide (HR2.out.trans hR3)
    clear hY3 hR3 CF HR2
    go_wp2
    go_ret
    rw [HE2.out]
    exact ⟨_, rfl, World.ownsRow_nil _ _ _ _, HY3.out, HR3.out⟩
  · have hn1 : 1 ≤ n := by omega
    have hT2 := HT.out.rd HR2.out hy3
    have C3 := hide (unpackChunk_any x n w2 hn1 hn hx hT2)
    have HE2 := hide (HE.out.trans (if_neg h0))
    have HL := hide (chunkR_length x n hn1)
    have h0b : ((n : Int) == 0) = false := by simp; omega
    have hsz := HR2.out.size
    generalize chunkR x n = q at *
    obtain ⟨l, u⟩ := q
    simp only at C3 HE2 HL
    clear hY2 hT2 HE
    go_wp2_with fail
    refine C3.out.mono ?_
    rintro e w3 ⟨v, rfl, hO3, hb3⟩
    have HO3 := hide (own_mono hO3 hsz)
    have HY3 := hide (HY2.out.kept (hb3.block yb HY2.out.lt))
    have HR3 := hide (HR2.out.below hb3)
    clear hO3 hb3 C3 HR2 HY2
    by_cases h1 : u.st = 1
    · have CF := hide (fail_any yb yo p2.2 p2.1 w3 HY3.out)
      have HE3 := hide (HE2.out.trans (if_pos h1))
      have h1b : ((u.st : Int) == 1) = true := by simp; omega
      clear HE2
      go_wp2_with fail
      refine CF.out.mono ?_
      rintro e w4 ⟨rfl, hY4, hR4⟩
      have HO4 := hide (own_rd HO3.out hR4 hyw)
      have HY4 := hide hY4
      have HR4 := hide (HR3.out.trans hR4)
      clear hY4 hR4 CF HO3 HY3 HR3
      go_wp2
      go_ret
      rw [HE3.out]
      exact ⟨_, rfl, by rw [HL.out]; exact HO4.out, HY4.out, HR4.out⟩
    · have HE3 := hide (HE2.out.trans (if_neg h1))
      have h1b : ((u.st : Int) == 1) = false := by simp; omega
      clear HE2
      go_wp2
      go_ret
      rw [HE3.out]
      exact ⟨_, rfl, by rw [HL.out]; exact HO3.out, HY3.out, HR3.out⟩
end Go.Proofs.YtamcclcbmenjdaaGreatDoor

/- The byte reader: texts. -/
namespace Go.Proofs.YtamcclcbmenjdaaGreatDoor
open Go.RowKit Go.Lib

set_option maxHeartbeats 400000 in
theorem clone_any (s : ByteArray) (w : World) (hs : s.size ≤ 140737488355328) :
    Calls Tryz.prog 103 #[.string s] w fun e w' => e = .returned (.string s) ∧ Below w.heap.size w w' := by
  have C := hide (Tryz.stringslite_Clone s w (by omega))
  go_enter Tryz.func103, Tryz.ntmps103
  go_wp2_with fail
  refine C.out.mono ?_
  rintro e w1 ⟨rfl, hb⟩
  have HB := hide hb
  clear hb C
  go_wp2
  go_ret
  exact ⟨rfl, HB.out⟩

set_option maxRecDepth 100000 in
set_option maxHeartbeats 400000 in
theorem texts_any (yb yo : Nat) (p : Rest) (w : World) (H : YR w yb yo p.1 p.2) (hs : Short 140737488355328 p) :
    Calls Tryz.prog 106 #[.pointer (some ⟨yb, yo, none⟩)] w fun e w' => ∃ v, e = .returned v ∧ w'.ownsRow w.heap.size 9 1 v (textsR p).1.length (Strs (textsR p).1) ∧
      YR w' yb yo (textsR p).2.1 (textsR p).2.2 ∧ Rd w w' yb yo := by
  obtain ⟨i0, hi, hz0, hz1, hz2⟩ := info_parts Tryz.infoStr
  have hyw := H.lt
  have C := hide (number_is yb yo p.2 p.1 64 w H hs.1)
  have hn4' : (numR p.1 64 p.2).1 ≤ 64 := num_nat p 64
  have hs1 := short_num hs 64
  have HE : Hid (textsR p = seqTo (fun s => textR s.1 16 s.2) (numR p.1 64 p.2).2 (numR p.1 64 p.2).1) := rfl
  generalize numR p.1 64 p.2 = r at *
  obtain ⟨n, p1⟩ := r
  simp only at C hn4' hs1 HE
  have HSh := hide hs1
  clear H hs hs1
  go_enter Tryz.func106, Tryz.ntmps106
  go_wp2_with fail
  refine C.out.mono ?_
  rintro e w1 ⟨rfl, hY, hR⟩
  have HY := hide hY
  have HR := hide hR
  have hsz := hR.size
  clear hY hR C
  go_wp2_with (first | (at_make; refine wpList_make_own _ rfl _ _ 22 rfl w.heap.size 9 i0 _ 1 Tryz.underlying22 hi hz0 hz1 .i64 .i64 _ n rfl rfl rfl (by rw [hz2]; omega) (by unfold maxLen; omega) hsz ?_; intro w2 hown2 hgrow2))
  have HY2 := hide (HY.out.grown hgrow2 (by simp))
  have HR2 := hide (HR.out.grown hgrow2 (by simp))
  have HO2 := hide hown2
  clear hown2 hgrow2 HY HR
  go_wp2
  go_loopw [4, 10] (fun o i wr => ∃ k : Nat, k ≤ n ∧ i = .int .i64 k ∧ o = .slice (some ⟨w1.heap.size, 0, none⟩) k n ∧ wr.ownsRow w.heap.size 9 1 (.slice (some ⟨w1.heap.size, 0, none⟩) k n) k (Strs (seqTo (fun s => textR s.1 16 s.2) p1 k).1) ∧
      YR wr yb yo (seqTo (fun s => textR s.1 16 s.2) p1 k).2.1 (seqTo (fun s => textR s.1 16 s.2) p1 k).2.2 ∧ Rd w wr yb yo) (fun _ i _ => n - (intOf i).toNat)
  case atStart => exact ⟨0, Nat.zero_le _, rfl, rfl, HO2.out, HY2.out, HR2.out⟩
  case round =>
    obtain ⟨k, hk, rfl, rfl, hO, hY, hR⟩ := hrel
    have HO := hide hO
    have HR := hide hR
    by_cases hlt : k < n
    · have hS := seqTo_inv (fun s => textR s.1 16 s.2) (Short 140737488355328) (fun _ h => short_text h 16) p1 HSh.out k
      have hsz1 := hR.size
      have C1 := hide (text_is yb yo (seqTo (fun s => textR s.1 16 s.2) p1 k).2.2 (seqTo (fun s => textR s.1 16 s.2) p1 k).2.1 16 wr hY hS.1)
      have hxs := Nat.le_trans (textR_len (seqTo (fun s => textR s.1 16 s.2) p1 k).2.1 16 (seqTo (fun s => textR s.1 16 s.2) p1 k).2.2) hS.1
      have HX : Hid ((seqTo (fun s => textR s.1 16 s.2) p1 (k + 1)).1 = (seqTo (fun s => textR s.1 16 s.2) p1 k).1 ++ [(textR (seqTo (fun s => textR s.1 16 s.2) p1 k).2.1 16 (seqTo (fun s => textR s.1 16 s.2) p1 k).2.2).1]) := rfl
      have HX2 : Hid ((seqTo (fun s => textR s.1 16 s.2) p1 (k + 1)).2 = (textR (seqTo (fun s => textR s.1 16 s.2) p1 k).2.1 16 (seqTo (fun s => textR s.1 16 s.2) p1 k).2.2).2) := rfl
      generalize (seqTo (fun s => textR s.1 16 s.2) p1 k).2 = q at *
      generalize (seqTo (fun s => textR s.1 16 s.2) p1 k).1 = done at *
      generalize textR q.1 16 q.2 = a1 at *
      obtain ⟨x1, q1⟩ := a1
      simp only at C1 HX HX2 hxs
      clear hO hY hR hS HY2 HR2 HO2
      go_wp2_with fail
      refine C1.out.mono ?_
      rintro e w3 ⟨rfl, hY3, hR3⟩
      have HO3 := hide (own_rd HO.out hR3 hyw)
      have HR3 := hide (HR.out.trans hR3)
      have HY3 := hide hY3
      have C2 := hide (clone_any x1 w3 hxs)
      clear hY3 hR3 C1 HO HR
      go_wp2_with fail
      refine C2.out.mono ?_
      rintro e w4 ⟨rfl, hb4⟩
      have HO4 := hide (own_kept HO3.out fun k hk => hb4.block k (World.ownsRow.lt HO3.out k hk).2)
      have HR4 := hide (HR3.out.below hb4)
      have HY4 := hide (HY3.out.kept (hb4.block yb HY3.out.lt))
      have hsz4 := HR4.out.size
      clear hb4 C2 HO3 HR3 HY3
      go_wp2_with (first | (at_builtin; refine wpList_append_own_spare _ rfl (.tmp 12) (.tmp 16) 22 rfl w.heap.size 9 i0 1 Tryz.underlying22 hi hz1 w1.heap.size k n _ rfl (own_alloc HO4.out _) ⟨w4.heap.size, 0, none⟩ 1 1 [.string x1] rfl rfl (cells_new _ _ _) (one_one rfl) (by omega) ?_))
      intro w5 hown5 hgrow5
      have hylt : some yb ≠ some w1.heap.size := fun e => by have := Option.some.inj e; omega
      have HO5 : Hid (w5.ownsRow w.heap.size 9 1 (.slice (some ⟨w1.heap.size, 0, none⟩) (k + 1) n) (k + 1) (Strs (seqTo (fun s => textR s.1 16 s.2) p1 (k + 1)).1)) := by
        rw [HX.out, Strs, List.map_append]; exact hown5
      have HY5 : Hid (YR w5 yb yo (seqTo (fun s => textR s.1 16 s.2) p1 (k + 1)).2.1 (seqTo (fun s => textR s.1 16 s.2) p1 (k + 1)).2.2) := by
        rw [HX2.out]; exact (HY4.out.alloc _).grown hgrow5 hylt
      have HR5 := hide ((HR4.out.alloc (.cells #[.string x1] 9)).grown hgrow5 (fun b e => by have := Option.some.inj e; omega))
      clear hown5 hgrow5 HO4 HY4 HR4 HX HX2
      go_wp2
      go_roundw
      case rel => exact ⟨k + 1, by omega, by go_num, rfl, HO5.out, HY5.out, HR5.out⟩
      case measure => simp [intOf]; omega
    · have hke : k = n := by omega
      subst hke
      have HY := hide hY
      clear hO hY hR
      go_wp2
      go_ret
      rw [HE.out]
      exact ⟨_, rfl, by rw [seqTo_length]; exact HO.out, HY.out, HR.out⟩
end Go.Proofs.YtamcclcbmenjdaaGreatDoor

/- unpackPayload. -/
namespace Go.Proofs.YtamcclcbmenjdaaGreatDoor
open Go.RowKit Go.Lib

theorem texts_at {base : Nat} {w : World} {v : Value} {l : List ByteArray} (h : w.ownsRow base 9 1 v l.length (Strs l)) (hb : 0 < w.heap.size) : ∃ tb, TextsAt w v tb l ∧ tb < w.heap.size ∧ (tb = 0 ∨ base ≤ tb) := by
  have hlt := fun k e => World.ownsRow.lt h k e
  rcases h.2 with ⟨rfl, h0⟩ | ⟨g, cap, cur, rfl, hg, hh, hc, _⟩
  · exact ⟨0, ⟨.inl ⟨List.eq_nil_of_length_eq_zero h0, _, _, rfl⟩⟩, hb, .inl rfl⟩
  · refine ⟨g, ⟨.inr ⟨0, cap, rfl, fun i x hx => ?_⟩⟩, (hlt g rfl).2, .inr hg⟩
    rw [Nat.zero_add]
    exact own_cell h (by simp [Strs, hx])
theorem YR.init {w : World} {s : ByteArray} : YR (w.alloc (.cells #[.string s, .int .i64 0] 161)) w.heap.size 0 s 0 :=
  ⟨World.cell?_alloc_new _ _ _ 0, World.cell?_alloc_new _ _ _ 1, World.frozen?_alloc_new _ _ _ 0, World.frozen?_alloc_new _ _ _ 1⟩

set_option maxRecDepth 100000 in
set_option maxHeartbeats 400000 in
theorem unpackPayload_any (s : ByteArray) (w : World) (hs : s.size ≤ 140737488355328) (hT : Tabs w) :
    Calls Tryz.prog 81 #[.string s] w fun e w' => ∃ v, e = .returned (.tuple #[v, .int .i64 (payR s).2.2]) ∧ FreshD w' w.heap.size v (payR s).1 ∧ Below w.heap.size w w' := by
  obtain ⟨i0, hi, hz0, hz1, hz2⟩ := info_parts Tryz.infoSer
  have h3 := hT.lt
  have hY0 := YR.init (w := w) (s := s)
  have hT0 := hT.alloc (.cells #[.string s, .int .i64 0] 161)
  have hS0 : Short 140737488355328 ((s, 0) : Rest) := ⟨hs, by omega⟩
  have C1 := hide (texts_any w.heap.size 0 (s, 0) _ hY0 hS0)
  have hS1 := short_texts hS0
  have HE : Hid (payR s = seqTo (serR (textsR (s, 0)).1) (numR (textsR (s, 0)).2.1 8 (textsR (s, 0)).2.2).2 (numR (textsR (s, 0)).2.1 8 (textsR (s, 0)).2.2).1) := rfl
  have htl : (textsR (s, 0)).1.length ≤ 64 := by
    unfold textsR; rw [seqTo_length]; exact num_nat (s, 0) 64
  generalize textsR (s, 0) = t at *
  obtain ⟨texts, p1⟩ := t
  simp only at C1 hS1 HE htl
  have HB0 : Hid (Below w.heap.size w (w.alloc (.cells #[.string s, .int .i64 0] 161))) := (Below.refl _ _).alloc (Nat.le_refl _) _
  have HT0 := hide hT0
  clear hY0 hT0 hS0 hT
  go_enter Tryz.func81, Tryz.ntmps81
  go_wp2_with fail
  refine C1.out.mono ?_
  rintro e w1 ⟨tv, rfl, hO1, hY1, hR1⟩
  have hT1 := HT0.out.rd hR1 (by omega)
  have HB1 := hide (below_rd HB0.out hR1 (by simp) (Nat.le_refl _))
  obtain ⟨tb, hTx, htbw, htb⟩ := texts_at hO1 (by have := hT1.lt; omega)
  have htb1 : tb ≠ w.heap.size := by
    rcases htb with h | h
    · omega
    · simp at h; omega
  obtain ⟨ta, tc, rfl⟩ := own_shape hO1
  have C2 := hide (number_is w.heap.size 0 p1.2 p1.1 8 w1 hY1 hS1.1)
  have hn : (numR p1.1 8 p1.2).1 ≤ 8 := num_nat p1 8
  have hS2 := short_num hS1 8
  generalize numR p1.1 8 p1.2 = r at *
  obtain ⟨n, p2⟩ := r
  simp only at C2 hn hS2 HE
  have HTx := hide hTx
  have HT1 := hide hT1
  clear hY1 hO1 hR1 hTx hT1 C1 HT0 HB0 hS1 htb
  go_wp2_with fail
  refine C2.out.mono ?_
  rintro e w2 ⟨rfl, hY2, hR2⟩
  have HTx2 := hide (HTx.out.kept (hR2.block tb htbw htb1))
  have HT2 := hide (HT1.out.rd hR2 (by omega))
  have HB2 := hide (below_rd HB1.out hR2 HB1.out.size (Nat.le_refl _))
  have htbw2 : tb < w2.heap.size := Nat.lt_of_lt_of_le htbw hR2.size
  have HY2 := hide hY2
  have hyw := hY2.lt
  clear hY2 hR2 C2 HTx HT1 HB1
  go_wp2_with (first | (at_make; refine wpList_make_own _ rfl _ _ 39 rfl (w.heap.size + 1) 38 i0 _ 2 Tryz.underlying39 hi hz0 hz1 .i64 .i64 _ n rfl rfl rfl (by rw [hz2]; omega) (by unfold maxLen; omega) (by omega) ?_; intro w3 hown3 hgrow3))
  have hsz3 := hgrow3.size
  have HTx3 := hide (HTx2.out.kept (hgrow3.block tb htbw2 (by simp)))
  have HT3 := hide (HT2.out.kept (hgrow3.block _ (by omega) (by simp)) (hgrow3.block _ (by omega) (by simp)))
  have HY3 := hide (HY2.out.grown hgrow3 (by simp))
  have HB3 := hide (below_grownAt HB2.out hgrow3 HB2.out.size (by simp))
  have HO3 := hide hown3
  have HSh := hide hS2
  generalize hg : w2.heap.size = g at *
  have hgw : g < w3.heap.size := (World.ownsRow.lt hown3 g rfl).2
  clear hown3 hgrow3 HTx2 HT2 HY2 HB2 hS2
  go_wp2
  go_loopw [7, 8, 16] (fun o _ i wr => ∃ (k : Nat) (vals : List (Value × Value)), k ≤ n ∧ i = .int .i64 k ∧ o = .slice (some ⟨g, 0, none⟩) k n ∧ wr.ownsRow (w.heap.size + 1) 38 2 (.slice (some ⟨g, 0, none⟩) k n) k (serCells vals) ∧ Sers wr (g + 1) vals (seqTo (serR texts) p2 k).1 ∧ Hid (Apt vals) ∧
      YR wr w.heap.size 0 (seqTo (serR texts) p2 k).2.1 (seqTo (serR texts) p2 k).2.2 ∧ TextsAt wr (.slice ta texts.length tc) tb texts ∧ Tabs wr ∧ Below w.heap.size w wr ∧ w3.heap.size ≤ wr.heap.size) (fun _ _ i _ => n - (intOf i).toNat)
  case atStart => exact ⟨0, [], Nat.zero_le _, rfl, rfl, HO3.out, Sers.nil _ _, List.Pairwise.nil, HY3.out, HTx3.out, HT3.out, HB3.out, Nat.le_refl _⟩
  case round =>
    obtain ⟨k, vals, hk, rfl, rfl, hO, hSr, HAp, hY, hTx, hTb, hB, hsz⟩ := hrel
    have HO := hide hO
    have HSr := hide hSr
    have HB := hide hB
    clear HO3 HY3 HTx3 HT3 HB3
    by_cases hlt : k < n
    · have hS := seqTo_inv (serR texts) (Short 140737488355328) (fun _ h => short_ser texts h) p2 HSh.out k
      have C3 := hide (labels_any w.heap.size 0 tb (seqTo (serR texts) p2 k).2 _ texts wr hY hS hTx htb1 (by omega) (by omega))
      have hS3 := short_labs texts hS
      have HX1 : Hid ((seqTo (serR texts) p2 (k + 1)).1 = (seqTo (serR texts) p2 k).1 ++ [((labsR texts (seqTo (serR texts) p2 k).2).1, (samplesR (labsR texts (seqTo (serR texts) p2 k).2).2).1)]) := rfl
      have HX2 : Hid ((seqTo (serR texts) p2 (k + 1)).2 = (samplesR (labsR texts (seqTo (serR texts) p2 k).2).2).2) := rfl
      generalize (seqTo (serR texts) p2 k).2 = q at *
      generalize (seqTo (serR texts) p2 k).1 = done at *
      generalize labsR texts q = a1 at *
      obtain ⟨l1, q1⟩ := a1
      simp only at C3 hS3 HX1 HX2
      have HTx := hide hTx
      have HTb := hide hTb
      have HSrA := hide HSr.out
      clear hO hSr hY hTx hTb hB hS
      go_wp2_with fail
      refine C3.out.mono ?_
      rintro e w4 ⟨lv, rfl, hO4, hY4, hR4⟩
      have hsz4 := hR4.size
      have HL4 := hide hO4
      have HLb : Hid (∀ k, lv.ownBlock = some k → wr.heap.size ≤ k) := fun k e => (World.ownsRow.lt hO4 k e).1
      have HO4 := hide (own_rd HO.out hR4 (by omega))
      have HSr4 := hide (HSr.out.kept fun j hj hjw => hR4.block j hjw (by omega))
      have HTx4 := hide (HTx.out.kept (hR4.block tb (by omega) htb1))
      have HTb4 := hide (HTb.out.rd hR4 (by omega))
      have HB4 := hide (below_rd HB.out hR4 HB.out.size (Nat.le_refl _))
      have C4 := hide (samples_any w.heap.size 0 q1 w4 hY4 hS3 HTb4.out (by omega))
      obtain ⟨la, lc, rfl⟩ := own_shape hO4
      generalize samplesR q1 = a2 at *
      obtain ⟨l2, q2⟩ := a2
      simp only at C4 HX1 HX2
      clear hO4 hY4 hR4 C3 HO HSr HTx HTb HB
      go_wp2_with fail
      refine C4.out.mono ?_
      rintro e w5 ⟨sv, rfl, hO5, hY5, hR5⟩
      have hsz5 := hR5.size
      have HMb : Hid (∀ k, sv.ownBlock = some k → wr.heap.size ≤ k) := fun k e => by have := (World.ownsRow.lt hO5 k e).1; omega
      have HM5 := hide (own_mono hO5 (show g + 1 ≤ w4.heap.size by omega))
      have HL5 := hide (own_mono (own_rd HL4.out hR5 (by omega)) (show g + 1 ≤ wr.heap.size by omega))
      have HO5 := hide (own_rd HO4.out hR5 (by omega))
      have HSr5 := hide (HSr4.out.kept fun j hj hjw => hR5.block j hjw (by omega))
      have HTx5 := hide (HTx4.out.kept (hR5.block tb (by omega) htb1))
      have HTb5 := hide (HTb4.out.rd hR5 (by omega))
      have HB5 := hide (below_rd HB4.out hR5 HB4.out.size (Nat.le_refl _))
      have HY5 := hide hY5
      have hyw5 := hY5.lt
      obtain ⟨sa, sc, rfl⟩ := own_shape hO5
      clear hO5 hY5 hR5 C4 HL4 HO4 HSr4 HTx4 HTb4 HB4
      go_wp2_with (first | (at_builtin; refine wpList_append_own_spare _ rfl (.tmp 20) (.tmp 24) 39 rfl (w.heap.size + 1) 38 i0 2 Tryz.underlying39 hi hz1 g k n _ rfl (own_alloc HO5.out _) ⟨w5.heap.size, 0, none⟩ 1 1 [.slice la l1.length lc, .slice sa l2.length sc] rfl rfl (cells_new _ _ _) (one_two rfl rfl) (by omega) ?_))
      intro w6 hown6 hgrow6
      have hsz6 : w5.heap.size + 1 ≤ w6.heap.size := by have := hgrow6.size; simpa using this
      have hkeep : ∀ j, j < w5.heap.size → j ≠ g → w6.heap[j]? = w5.heap[j]? := fun j hj hne => (hgrow6.block j (by simp; omega) (fun e => hne (Option.some.inj e))).trans (heap_alloc_old w5 _ hj)
      have HO6 : Hid (w6.ownsRow (w.heap.size + 1) 38 2 (.slice (some ⟨g, 0, none⟩) (k + 1) n) (k + 1) (serCells (vals ++ [(.slice la l1.length lc, .slice sa l2.length sc)]))) := by
        rw [serCells_snoc]; exact hown6
      have HSr6 : Hid (Sers w6 (g + 1) (vals ++ [(.slice la l1.length lc, .slice sa l2.length sc)]) (seqTo (serR texts) p2 (k + 1)).1) := by
        rw [HX1.out]
        exact (HSr5.out.snoc (p := (.slice la l1.length lc, .slice sa l2.length sc)) (x := (l1, l2)) HL5.out HM5.out).kept fun j hj hjw => hkeep j hjw (by omega)
      have HAp6 := hide (HAp.out.snoc (p := (.slice la l1.length lc, .slice sa l2.length sc)) HSrA.out (Nat.le_refl _) HLb.out HMb.out)
      have HY6 : Hid (YR w6 w.heap.size 0 (seqTo (serR texts) p2 (k + 1)).2.1 (seqTo (serR texts) p2 (k + 1)).2.2) := by
        rw [HX2.out]; exact HY5.out.kept (hkeep _ hyw5 (by omega))
      have HTx6 := hide (HTx5.out.kept (hkeep tb (by omega) (by omega)))
      have HTb6 := hide (HTb5.out.kept (hkeep _ (by omega) (by omega)) (hkeep _ (by omega) (by omega)))
      have HB6 : Hid (Below w.heap.size w w6) := below_grownAt (HB5.out.alloc HB5.out.size _) hgrow6 (by simp; omega) (fun b e => by have := Option.some.inj e; omega)
      clear hown6 hgrow6 hkeep HO5 HSr5 HY5 HTx5 HTb5 HB5 HL5 HM5 HX1 HX2
      go_wp2
      go_roundw
      case rel => exact ⟨k + 1, _, by omega, by go_num, rfl, HO6.out, HSr6.out, HAp6.out, HY6.out, HTx6.out, HTb6.out, HB6.out, by omega⟩
      case measure => simp [intOf]; omega
    · have hke : k = n := by omega
      subst hke
      have c1 := hY.c1
      have HE2 := hide HE.out
      clear hO hSr hY hTx hTb hB
      go_wp2
      go_quiet (fail)
      go_wp2
      go_ret2
      rw [HE2.out]
      refine ⟨.slice (some ⟨g, 0, none⟩) k k, rfl, ⟨vals, ?_, ?_, HAp.out⟩, below_drewN HB.out _⟩
      · rw [seqTo_length]; exact own_mono HO.out (Nat.le_succ _)
      · exact ⟨HSr.out.1, fun i p x hp hx => ⟨own_mono (HSr.out.2 i p x hp hx).1 (by omega), own_mono (HSr.out.2 i p x hp hx).2 (by omega)⟩⟩
end Go.Proofs.YtamcclcbmenjdaaGreatDoor

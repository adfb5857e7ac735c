/- 'choirkeep.Level', for any list of steps (100 of them are done): when all are up, nothing is under way, and each has told each other one, all have the same, and compacted logs are the same bytes. The first form's statement and its card: no condition beside the row's own. -/
import Derived.Test.YtamcclcbmenjdaaGreatDoorLevelG33
import Derived.Test.YtamcclcbmenjdaaGreatDoorLevelG28
import Derived.Lib.BufferWrite
/- (c *Cluster).Write; a replica's Receive; between, Query. -/
namespace Go.Proofs.YtamcclcbmenjdaaGreatDoor
open Go.RowKit Go.Lib

/-- What the cluster's Write leaves. -/
def CWEnd (W w' : World) (cb o : Nat) (r : RS) (b : List Ser) (e : Ending) : Prop := ∃ (n : Nat) (r' : RS) (sv' lp' : Value), e = .returned (.int .i64 n) ∧ ((r.up = false ∧ n = 5 ∧ r' = r) ∨ (r.up = true ∧ WriteOf r b n r')) ∧ RepAt w' cb o r' sv' lp' ∧ Turn W w' cb o (o + 5)

set_option maxHeartbeats 400000 in
theorem cWrite_any (W : World) (cb k M : Nat) (hk3 : k < 3) (r : RS) (sv lp vb : Value) (b : List Ser) (h : RepAt W cb (k * 5) r sv lp) (hk : RepOk M r) (hM : M ≤ 4611686018000000000) (hsf : SafeB W cb vb b) (hsm : Small b) (hr : InRange b) (hT : Tabs W) (hcb : 2 < cb) :
    Calls Tryz.prog 54 #[.pointer (some ⟨cb, 0, none⟩), .int .i64 k, vb] W fun e w' => CWEnd W w' cb (k * 5) r b e := by
  obtain ⟨va, vc, rfl, -⟩ := id hsf.here
  have C := hide (running_any W cb k hk3 r sv lp h)
  have C2 := hide (rWrite_any W cb (k * 5) M r sv lp _ b h hk hM hsf hsm hr hT hcb)
  have H := hide h
  clear h hk hM hsf hsm hr hT
  cases hu : r.up with
  | true =>
    have HU := hide hu
    rw [hu] at C
    clear hu
    go_enter Tryz.func54, Tryz.ntmps54
    go_wp2_with fail
    refine C.out.mono ?_
    rintro e w1 ⟨rfl, rfl⟩
    go_wp2_with fail
    refine C2.out.mono ?_
    rintro e w2 ⟨n, r', sv', lp', rfl, hw, h1, t1⟩
    have HW := hide hw
    have H1 := hide h1
    have T1 := hide t1
    clear hw h1 t1 C C2
    go_wp2
    go_ret
    exact ⟨n, r', sv', lp', rfl, .inr ⟨HU.out, HW.out⟩, H1.out, T1.out⟩
  | false =>
    have HU := hide hu
    rw [hu] at C
    clear hu C2
    go_enter Tryz.func54, Tryz.ntmps54
    go_wp2_with fail
    refine C.out.mono ?_
    rintro e w1 ⟨rfl, rfl⟩
    go_wp2
    go_ret
    exact ⟨5, r, sv, lp, rfl, .inl ⟨HU.out, rfl, rfl⟩, H.out, Turn.refl _ _ _ _⟩

/-- What Receive makes of a replica. -/
def RecvOf (r : RS) (s : ByteArray) (r' : RS) : Prop := ((r.up = false ∨ ¬ IsFrame s.data.toList) ∧ r' = r) ∨ (r.up = true ∧ IsFrame s.data.toList ∧ ∃ n, WriteOf r (got s.data.toList) n r')
def RecvEnd (W w' : World) (cb o : Nat) (r : RS) (s : ByteArray) (e : Ending) : Prop := ∃ (r' : RS) (sv' lp' : Value), e = .returned (.tuple #[]) ∧ RecvOf r s r' ∧ RepAt w' cb o r' sv' lp' ∧ Turn W w' cb o (o + 5)

set_option maxHeartbeats 400000 in
theorem receive_any (W : World) (cb o M : Nat) (r : RS) (sv lp : Value) (s : ByteArray) (h : RepAt W cb o r sv lp) (hk : RepOk M r) (hM : M ≤ 4611686018000000000) (hs : s.size ≤ 140737488355328) (hT : Tabs W) (hcb : 2 < cb) :
    Calls Tryz.prog 71 #[.pointer (some ⟨cb, o, none⟩), .string s] W fun e w' => RecvEnd W w' cb o r s e := by
  have C := hide (isUp_any W cb o r sv lp h)
  have C2 := hide (unpack_any s W hs hT)
  have hlt := h.lt
  have H := hide h
  have HK := hide hk
  have HT := hide hT
  clear h hk hT
  cases hu : r.up with
  | true =>
    have HU := hide hu
    rw [hu] at C
    clear hu
    go_enter Tryz.func71, Tryz.ntmps71
    go_wp2_with fail
    refine C.out.mono ?_
    rintro e w1 ⟨rfl, rfl⟩
    go_wp2_with fail
    refine C2.out.mono ?_
    rintro e w2 ⟨⟨hF, u, rfl, hf⟩ | ⟨hno, rfl⟩, hb2⟩
    · have hs2 := hb2.size
      obtain ⟨ua, uc, rfl⟩ := hf.shape
      have hrg := (payR_small (BA (inner s.data.toList))).2
      have hF2 : Fresh w2 (cb + 1) (.slice ua (got s.data.toList).length uc) (got s.data.toList) := by
        obtain ⟨vals, ho, hs⟩ := hf.fresh
        exact ⟨vals, own_mono ho (by omega), hs.1, fun i p x hp hx => ⟨own_mono (hs.2 i p x hp hx).1 (by omega), own_mono (hs.2 i p x hp hx).2 (by omega)⟩⟩
      have C3 := hide (rWrite_any w2 cb o M r sv lp _ (got s.data.toList) (H.out.below hb2) HK.out hM (safe_fresh hF2 hrg) (small_of_limits hF.limits) hrg (HT.out.below hb2 (by omega)) hcb)
      have HFr := hide hF
      have HTn : Hid (Turn W w2 cb o (o + 5)) := Turn.of_below hb2 hlt
      clear hF hf hb2 hrg hF2 C2 C
      go_wp2_with fail
      refine C3.out.mono ?_
      rintro e w3 ⟨n, r', sv', lp', rfl, hw, h1, t1⟩
      have HW := hide hw
      have H1 := hide h1
      have T1 := hide (HTn.out.trans t1)
      clear hw h1 t1 C3
      go_wp2
      go_end0
      exact ⟨r', sv', lp', rfl, .inr ⟨HU.out, HFr.out, n, HW.out⟩, H1.out, T1.out⟩
    · have HN := hide hno
      have H1 := hide (H.out.below hb2)
      have HTn : Hid (Turn W w2 cb o (o + 5)) := Turn.of_below hb2 hlt
      clear hno hb2 C2 C
      go_wp2
      go_end0
      exact ⟨r, sv, lp, rfl, .inl ⟨.inr HN.out, rfl⟩, H1.out, HTn.out⟩
  | false =>
    have HU := hide hu
    rw [hu] at C
    clear hu C2
    go_enter Tryz.func71, Tryz.ntmps71
    go_wp2_with fail
    refine C.out.mono ?_
    rintro e w1 ⟨rfl, rfl⟩
    go_wp2
    (try simp only [Exit.inBlock, Exit.then])
    refine bodyPost_ret (results_none rfl _ _ _) rfl ?_
    exact ⟨r, sv, lp, rfl, .inl ⟨.inl HU.out, rfl⟩, H.out, Turn.refl _ _ _ _⟩

/-- The samples from one time to another. -/
def betw (a b : Int) (l : List (Int × Nat)) : List (Int × Nat) := l.filter fun x => decide (a ≤ x.1) && decide (x.1 ≤ b)
theorem betw_snoc (a b : Int) (l : List (Int × Nat)) (x : Int × Nat) : betw a b (l ++ [x]) = betw a b l ++ (if a ≤ x.1 ∧ x.1 ≤ b then [x] else []) := by
  unfold betw
  rw [List.filter_append]
  congr 1
  by_cases h1 : a ≤ x.1 <;> by_cases h2 : x.1 ≤ b <;> simp [h1, h2]

set_option maxRecDepth 100000 in
set_option maxHeartbeats 1000000 in
theorem between_any (W : World) (v : Value) (l : List (Int × Nat)) (a b : Int) (hv : SamplesAt W W.heap.size v l) (hl : l.length ≤ 1000000000000) :
    Calls Tryz.prog 96 #[v, .int .i64 a, .int .i64 b] W fun e w' => ∃ v', e = .returned v' ∧ w'.ownsRow W.heap.size 34 2 v' (betw a b l).length (samCells (betw a b l)) ∧ Below W.heap.size W w' := by
  obtain ⟨iS, hi1, hy0, hy1, hy2⟩ := info_parts Tryz.infoSam
  obtain ⟨va, vc, rfl, -⟩ := id hv
  have HV := hide hv
  clear hv
  go_enter Tryz.func96, Tryz.ntmps96
  go_wp2
  go_loopw [7, 9, 12] (fun fv _ iv wr => ∃ j : Nat, j ≤ l.length ∧ iv = .int .i64 j ∧ (betw a b (l.take j)).length ≤ j ∧ Hid (wr.ownsRow W.heap.size 34 2 fv (betw a b (l.take j)).length (samCells (betw a b (l.take j)))) ∧ Hid (Below W.heap.size W wr)) (fun _ _ i _ => l.length - (intOf i).toNat)
  case atStart => exact ⟨0, Nat.zero_le _, rfl, Nat.le_refl _, World.ownsRow_nil _ _ _ _, Below.refl _ _⟩
  case round =>
    obtain ⟨j, hj, rfl, hbl, HO, HB⟩ := hrel
    have hws := HB.out.size
    by_cases hjl : j < l.length
    · obtain ⟨⟨tx, bx⟩, hx⟩ : ∃ x, l[j]? = some x := ⟨_, List.getElem?_eq_getElem hjl⟩
      obtain ⟨b1, o1, rfl, u1, u2⟩ := samGet HV.out hx
      have hb1 : b1 < W.heap.size := by
        obtain ⟨a', c', e', _, _, h2⟩ := HV.out
        rcases h2 with h2 | ⟨b', o', ea, hb', _⟩
        · rw [h2] at hx; cases hx
        · cases e'; cases ea; exact hb'
      simp only at u1 u2
      have m1 := (HB.out.cell (p := ⟨b1, o1 + j * 2, none⟩) hb1).trans u1
      have m2 := (HB.out.cell (p := ⟨b1, o1 + j * 2 + 1, none⟩) hb1).trans u2
      have htk : l.take (j + 1) = l.take j ++ [(tx, bx)] := by
        obtain ⟨hk, hx'⟩ := List.getElem?_eq_some_iff.1 hx
        rw [List.take_succ_eq_append_getElem hk, hx']
      have hbt := betw_snoc a b (l.take j) (tx, bx)
      rw [← htk] at hbt
      have i1 : (j : Int) < (l.length : Int) := by omega
      obtain ⟨fa, fc, rfl⟩ := own_shape HO.out
      clear hx u1 u2 htk
      generalize betw a b (l.take j) = d at *
      by_cases hin : a ≤ tx ∧ tx ≤ b
      · have HE : Hid (betw a b (l.take (j + 1)) = d ++ [(tx, bx)]) := by show _ = _; rw [hbt, if_pos hin]
        obtain ⟨h1, h2⟩ := hin
        clear hbt
        go_wp2_with (first | (at_builtin; refine wpList_append_heir _ rfl (.tmp 26) (.tmp 28) 35 rfl W.heap.size 34 iS (.agg #[.int .i64 0, .int .u64 0]) 2 16 Tryz.underlying35 hi1 hy0 hy1 hy2 rfl (by decide) _ d.length (samCells d) rfl (own_alloc (own_alloc HO.out _) _) ⟨wr.heap.size + 1, 0, none⟩ 1 1 [.int .i64 tx, .int .u64 bx] rfl rfl (by have := cells_new (wr.alloc (.cells #[.int .i64 tx, .int .u64 bx] 34)) [.int .i64 tx, .int .u64 bx] 34; simpa using this) (one_two rfl rfl) (by unfold maxLen; omega) (by omega) (by simp; omega) ?_) | fail)
        intro v5 w5 ho5 hg5 hh5
        have HO5 : Hid (w5.ownsRow W.heap.size 34 2 v5 (betw a b (l.take (j + 1))).length (samCells (betw a b (l.take (j + 1))))) := by rw [HE.out, samCells_snoc, List.length_append]; exact ho5
        have HB5 : Hid (Below W.heap.size W w5) := ((HB.out.alloc hws _).alloc (by simp; omega) _).grown hg5 (by simp; omega) (fun q e => (World.ownsRow.lt HO.out q e).1)
        have hl5 : (betw a b (l.take (j + 1))).length ≤ j + 1 := by rw [HE.out]; simp; omega
        clear ho5 hg5 hh5 HO HB HE
        go_wp2
        go_roundw
        case rel => exact ⟨j + 1, by omega, by go_num, hl5, HO5.out, HB5.out⟩
        case measure => simp [intOf]; omega
      · have HE : Hid (betw a b (l.take (j + 1)) = d) := by show _ = _; rw [hbt, if_neg hin, List.append_nil]
        have hl5 : (betw a b (l.take (j + 1))).length ≤ j + 1 := by rw [HE.out]; omega
        have HB5 : Hid (Below W.heap.size W (wr.alloc (.cells #[.int .i64 tx, .int .u64 bx] 34))) := HB.out.alloc hws _
        have HO5 : Hid ((wr.alloc (.cells #[.int .i64 tx, .int .u64 bx] 34)).ownsRow W.heap.size 34 2 (.slice fa d.length fc) (betw a b (l.take (j + 1))).length (samCells (betw a b (l.take (j + 1))))) := by rw [HE.out]; exact own_alloc HO.out _
        clear hbt HO HB HE
        by_cases h1 : a ≤ tx
        · have h2 : ¬ tx ≤ b := fun e => hin ⟨h1, e⟩
          clear hin
          go_wp2
          go_roundw
          case rel => exact ⟨j + 1, by omega, by go_num, hl5, HO5.out, HB5.out⟩
          case measure => simp [intOf]; omega
        · clear hin
          go_wp2
          go_roundw
          case rel => exact ⟨j + 1, by omega, by go_num, hl5, HO5.out, HB5.out⟩
          case measure => simp [intOf]; omega
    · obtain rfl : j = l.length := by omega
      have hO := HO.out
      rw [List.take_length] at hO
      have HO2 := hide hO
      obtain ⟨fa, fc, rfl⟩ := own_shape hO
      clear hO HO
      go_wp2
      go_ret
      exact ⟨_, rfl, HO2.out, HB.out⟩
end Go.Proofs.YtamcclcbmenjdaaGreatDoor

/- A replica's Query; (c *Cluster).Query; choirkeep's has. -/
namespace Go.Proofs.YtamcclcbmenjdaaGreatDoor
open Go.RowKit Go.Lib

/-- What Query tells. -/
def queryOf (a b : Int) (bs : List Ser) : List Ser := bs.filterMap fun s => if betw a b s.2 = [] then none else some (s.1, betw a b s.2)
theorem queryOf_snoc (a b : Int) (bs : List Ser) (x : Ser) : queryOf a b (bs ++ [x]) = queryOf a b bs ++ (if betw a b x.2 = [] then [] else [(x.1, betw a b x.2)]) := by
  unfold queryOf
  rw [List.filterMap_append]
  congr 1
  by_cases h : betw a b x.2 = [] <;> simp [h]
theorem queryOf_len (a b : Int) (bs : List Ser) : (queryOf a b bs).length ≤ bs.length := List.length_filterMap_le _ _

set_option maxRecDepth 100000 in
set_option maxHeartbeats 1000000 in
theorem query_any (W : World) (cb o M : Nat) (r : RS) (sv lp : Value) (a b : Int) (h : RepAt W cb o r sv lp) (hk : RepOk M r) :
    Calls Tryz.prog 65 #[.pointer (some ⟨cb, o, none⟩), .int .i64 a, .int .i64 b] W fun e w' => ∃ v', e = .returned v' ∧ Fresh w' W.heap.size v' (queryOf a b r.bs) ∧ Below W.heap.size W w' := by
  obtain ⟨iS, hi1, hy0, hy1, hy2⟩ := info_parts Tryz.infoSer
  obtain ⟨sa, sc, rfl⟩ := fresh_shape h.ser
  have hA := h.ser.batchAt hk.rng
  have c1 := h.c1
  have HA := hide hA
  have HLm := hide (limits_mem hk.lim)
  have h8 := hk.lim.2
  have HFt := hide (fits_of hk.ok hk.lim).texts
  generalize r.bs = bs at *
  clear h hk hA
  go_enter Tryz.func65, Tryz.ntmps65
  go_wp2
  go_loopw [7, 9, 10, 16] (fun fv _ _ iv wr => ∃ (j : Nat) (vals : List (Value × Value)), j ≤ bs.length ∧ iv = .int .i64 j ∧ vals.length ≤ j ∧ Hid (wr.ownsRow W.heap.size 38 2 fv vals.length (serCells vals)) ∧ Hid (Sers wr W.heap.size vals (queryOf a b (bs.take j))) ∧ Hid (Below W.heap.size W wr)) (fun _ _ _ i _ => bs.length - (intOf i).toNat)
  case atStart => exact ⟨0, [], Nat.zero_le _, rfl, Nat.le_refl _, World.ownsRow_nil _ _ _ _, Sers.nil _ _, Below.refl _ _⟩
  case round =>
    obtain ⟨j, vals, hj, rfl, hvl, HO, HS, HB⟩ := hrel
    have hws := HB.out.size
    by_cases hjl : j < bs.length
    · obtain ⟨x, hx⟩ : ∃ x, bs[j]? = some x := ⟨_, List.getElem?_eq_getElem hjl⟩
      obtain ⟨b1, o1, la1, lc1, sa1, sc1, rfl, hb1, p1, p2, L1, S1⟩ := HA.out.get hx
      have m1 := (HB.out.cell (p := ⟨b1, o1 + j * 2, none⟩) hb1).trans p1
      have m2 := (HB.out.cell (p := ⟨b1, o1 + j * 2 + 1, none⟩) hb1).trans p2
      have htk : bs.take (j + 1) = bs.take j ++ [x] := by
        obtain ⟨hk, hx'⟩ := List.getElem?_eq_some_iff.1 hx
        rw [List.take_succ_eq_append_getElem hk, hx']
      have hq := queryOf_snoc a b (bs.take j) x
      rw [← htk] at hq
      have hlim := HLm.out x (List.mem_of_getElem? hx)
      have HTx := hide (HFt.out x (List.mem_of_getElem? hx))
      have i1 : (j : Int) < (bs.length : Int) := by omega
      have HB2 : Hid (Below W.heap.size W (wr.alloc (.cells #[.slice la1 x.1.length lc1, .slice sa1 x.2.length sc1] 38))) := HB.out.alloc hws _
      have hs2 : W.heap.size ≤ (wr.alloc (.cells #[.slice la1 x.1.length lc1, .slice sa1 x.2.length sc1] 38)).heap.size := HB2.out.size
      have C := hide (between_any _ _ x.2 a b ((S1.below HB2.out (Nat.le_refl _)).mono hs2) (by omega))
      have HL1 := hide L1
      have d0 : (wr.alloc (.cells #[.slice la1 x.1.length lc1, .slice sa1 x.2.length sc1] 38)).cell? ⟨wr.heap.size, 0, none⟩ = some (.slice la1 x.1.length lc1) := World.cell?_alloc_new _ _ _ 0
      have HO2 := hide (own_alloc HO.out (.cells #[.slice la1 x.1.length lc1, .slice sa1 x.2.length sc1] 38))
      have HS2 := hide (HS.out.kept (w' := wr.alloc (.cells #[.slice la1 x.1.length lc1, .slice sa1 x.2.length sc1] 38)) fun k _ hk => heap_alloc_old wr _ hk)
      obtain ⟨fa, fc, rfl⟩ := own_shape HO.out
      clear hx htk p1 p2 L1 S1
      go_wp2_with fail
      refine C.out.mono ?_
      rintro e w2 ⟨mv, rfl, hO2, hb2⟩
      have hs3 := hb2.size
      simp only [World.size_alloc] at hs3
      have hkp : ∀ k, k < wr.heap.size + 1 → w2.heap[k]? = (wr.alloc (.cells #[.slice la1 x.1.length lc1, .slice sa1 x.2.length sc1] 38)).heap[k]? := fun k hk => hb2.block k (by simp; omega)
      have HO3 := hide (own_kept HO2.out (w' := w2) fun k e => hkp k (by have := (World.ownsRow.lt HO2.out k e).2; simp at this; omega))
      have HS3 := hide (HS2.out.kept (w' := w2) fun k _ hk => hkp k (by simpa using hk))
      have HB3 := hide (HB2.out.trans (hb2.mono hs2))
      have d1 := (World.cell?_of_block (a := ⟨wr.heap.size, 0, none⟩) (hkp wr.heap.size (by omega))).trans d0
      have HM := hide (own_mono hO2 hs2)
      obtain ⟨ma, mc, rfl⟩ := own_shape hO2
      clear hO2 hb2 hkp d0 C HO HS HB HB2 HO2 HS2 m1 m2
      by_cases he : betw a b x.2 = []
      · have HE : Hid (queryOf a b (bs.take (j + 1)) = queryOf a b (bs.take j)) := by show _ = _; rw [hq, if_pos he, List.append_nil]
        have HS4 : Hid (Sers w2 W.heap.size vals (queryOf a b (bs.take (j + 1)))) := by show Sers _ _ _ _; rw [HE.out]; exact HS3.out
        rw [he]
        clear hq he HE HS3
        go_wp2
        go_roundw
        case rel => exact ⟨j + 1, vals, by omega, by go_num, by omega, HO3.out, HS4.out, HB3.out⟩
        case measure => simp [intOf]; omega
      · have HE : Hid (queryOf a b (bs.take (j + 1)) = queryOf a b (bs.take j) ++ [(x.1, betw a b x.2)]) := by show _ = _; rw [hq, if_neg he]
        have hpos : 0 < (betw a b x.2).length := List.length_pos_iff.2 he
        have hws3 : W.heap.size ≤ w2.heap.size := HB3.out.size
        have C2 := hide (copyLabels_any w2 _ x.1 ((HL1.out.below HB3.out (Nat.le_refl _)).mono hws3) (by omega) (fun y hy => by have := HTx.out y hy; omega))
        clear hq he
        generalize betw a b x.2 = mm at *
        go_wp2_with fail
        refine C2.out.mono ?_
        rintro e w3 ⟨lv, rfl, hO3, hb3⟩
        have hs4 := hb3.size
        have HO4 := hide (own_kept HO3.out (w' := w3) fun k e => hb3.block k (World.ownsRow.lt HO3.out k e).2)
        have HS4 := hide (HS3.out.kept (w' := w3) fun k _ hk => hb3.block k hk)
        have HM4 := hide (own_kept HM.out (w' := w3) fun k e => hb3.block k (World.ownsRow.lt HM.out k e).2)
        have HL4 := hide (own_mono hO3 hws3)
        have HB4 := hide (HB3.out.trans (hb3.mono hws3))
        obtain ⟨ll, lc, rfl⟩ := own_shape hO3
        clear hO3 hb3 C2 HO3 HS3 HM HB3 d1
        have hws4 : W.heap.size ≤ w3.heap.size := HB4.out.size
        go_wp2_with (first | (at_builtin; refine wpList_append_heir _ rfl (.tmp 28) (.tmp 34) 39 rfl W.heap.size 38 iS (.agg #[.slice none 0 0, .slice none 0 0]) 2 48 Tryz.underlying39 hi1 hy0 hy1 hy2 rfl (by decide) _ vals.length (serCells vals) rfl (own_alloc HO4.out _) ⟨w3.heap.size, 0, none⟩ 1 1 [.slice ll x.1.length lc, .slice ma mm.length mc] rfl rfl (cells_new w3 _ _) (one_two rfl rfl) (by unfold maxLen; omega) (by omega) (by simp; omega) ?_) | fail)
        intro v5 w5 ho5 hg5 hh5
        have hk5 : ∀ k, k < w3.heap.size → some k ≠ (Value.slice fa vals.length fc).ownBlock → w5.heap[k]? = w3.heap[k]? := fun k h1 h2 => (hg5.block k (by simp; omega) h2).trans (heap_alloc_old w3 _ h1)
        have HO5 : Hid (w5.ownsRow W.heap.size 38 2 v5 (vals ++ [((.slice ll x.1.length lc : Value), (.slice ma mm.length mc : Value))]).length (serCells (vals ++ [(.slice ll x.1.length lc, .slice ma mm.length mc)]))) := by rw [serCells_snoc, List.length_append]; exact ho5
        have HS5 : Hid (Sers w5 W.heap.size (vals ++ [(.slice ll x.1.length lc, .slice ma mm.length mc)]) (queryOf a b (bs.take (j + 1)))) := by
          show Sers _ _ _ _
          rw [HE.out]
          have hS : Sers w5 W.heap.size vals (queryOf a b (bs.take j)) := ⟨HS4.out.1, fun i p y hp hy => by
            obtain ⟨h1, h2⟩ := HS4.out.2 i p y hp hy
            exact ⟨own_kept h1 fun k e => hk5 k (World.ownsRow.lt h1 k e).2 fun e' => own_types h1 HO4.out (by decide) k e e'.symm, own_kept h2 fun k e => hk5 k (World.ownsRow.lt h2 k e).2 fun e' => own_types h2 HO4.out (by decide) k e e'.symm⟩⟩
          exact hS.snoc (own_kept HL4.out fun k e => hk5 k (World.ownsRow.lt HL4.out k e).2 fun e' => own_types HL4.out HO4.out (by decide) k e e'.symm) (own_kept HM4.out fun k e => hk5 k (World.ownsRow.lt HM4.out k e).2 fun e' => own_types HM4.out HO4.out (by decide) k e e'.symm)
        have HB5 : Hid (Below W.heap.size W w5) := (HB4.out.alloc hws4 _).grown hg5 (by simp; omega) (fun q e => (World.ownsRow.lt HO4.out q e).1)
        clear ho5 hg5 hh5 hk5 HO4 HS4 HM4 HL4 HB4 HE
        go_wp2
        go_roundw
        case rel => exact ⟨j + 1, _, by omega, by go_num, by simp; omega, HO5.out, HS5.out, HB5.out⟩
        case measure => simp [intOf]; omega
    · obtain rfl : j = bs.length := by omega
      have hS := HS.out
      rw [List.take_length] at hS
      have HF : Hid (Fresh wr W.heap.size u7 (queryOf a b bs)) := ⟨vals, by rw [← hS.1]; exact HO.out, hS⟩
      obtain ⟨fa, fc, rfl⟩ := own_shape HO.out
      clear hS HO HS
      go_wp2
      go_ret
      exact ⟨_, rfl, HF.out, HB.out⟩
/-- What the cluster's Query answers. -/
def CQEnd (W w' : World) (r : RS) (a b : Int) (e : Ending) : Prop :=
  ((r.up = false ∧ e = .returned (.tuple #[.slice none 0 0, .int .i64 5])) ∨ (r.up = true ∧ ∃ x c, e = .returned (.tuple #[.slice x (queryOf a b r.bs).length c, .int .i64 0]) ∧ Fresh w' W.heap.size (.slice x (queryOf a b r.bs).length c) (queryOf a b r.bs))) ∧ Below W.heap.size W w'
set_option maxHeartbeats 400000 in
theorem cQuery_any (W : World) (cb k M : Nat) (hk3 : k < 3) (r : RS) (sv lp : Value) (a b : Int) (h : RepAt W cb (k * 5) r sv lp) (hk : RepOk M r) :
    Calls Tryz.prog 27 #[.pointer (some ⟨cb, 0, none⟩), .int .i64 k, .int .i64 a, .int .i64 b] W fun e w' => CQEnd W w' r a b e := by
  have C := hide (running_any W cb k hk3 r sv lp h)
  have C2 := hide (query_any W cb (k * 5) M r sv lp a b h hk)
  clear h hk
  cases hu : r.up with
  | true =>
    have HU := hide hu
    rw [hu] at C
    clear hu
    go_enter Tryz.func27, Tryz.ntmps27
    go_wp2_with fail
    refine C.out.mono ?_
    rintro e w1 ⟨rfl, rfl⟩
    go_wp2_with fail
    refine C2.out.mono ?_
    rintro e w2 ⟨v, rfl, hF, hb⟩
    obtain ⟨x, c, rfl⟩ := fresh_shape hF
    have HF := hide hF
    have HB := hide hb
    clear hF hb C C2
    go_wp2
    go_ret2
    exact ⟨.inr ⟨HU.out, x, c, rfl, HF.out⟩, HB.out⟩
  | false =>
    have HU := hide hu
    rw [hu] at C
    clear hu C2
    go_enter Tryz.func27, Tryz.ntmps27
    go_wp2_with fail
    refine C.out.mono ?_
    rintro e w1 ⟨rfl, rfl⟩
    go_wp2
    go_ret2
    exact ⟨.inl ⟨HU.out, rfl⟩, Below.refl _ _⟩
end Go.Proofs.YtamcclcbmenjdaaGreatDoor

/- A log's bytes: String; a replica's Log and Frame. -/
namespace Go.Proofs.YtamcclcbmenjdaaGreatDoor
open Go.RowKit Go.Lib

/-- The bytes of a log. -/
def logB : List ByteArray → List UInt8
  | [] => []
  | x :: r => logB r ++ x.data.toList
theorem logB_app (d r : List ByteArray) : logB (d ++ r) = logB r ++ logB d := by
  induction d with
  | nil => simp [logB]
  | cons x d ih => rw [List.cons_append, logB, ih, logB, List.append_assoc]
theorem logB_length (l : List ByteArray) : (logB l).length = logSize l := by
  induction l with
  | nil => rfl
  | cons x r ih => rw [logB, List.length_append, ih, logSize_cons]; simp; omega
theorem logSize_app (d r : List ByteArray) : logSize (d ++ r) = logSize d + logSize r := by simp [logSize]
theorem made_zero (n : Nat) : madeCells #[.int .u8 0] (n * 1) = (List.replicate n (Value.int .u8 0)).toArray := by
  apply Array.ext'
  rw [Nat.mul_one]
  apply List.ext_getElem?
  intro i
  simp only [madeCells, Array.toList_map, Array.toList_range]
  by_cases h : i < n
  · simp [h, Nat.mod_one]
  · simp [h]
theorem byteCells_app (a b : List UInt8) : byteCells (a ++ b) = byteCells a ++ byteCells b := by simp [byteCells]
/-- The row as it is filled from its end on. -/
def fillRow (n : Nat) (d : List UInt8) : List Value := List.replicate n (.int .u8 0) ++ byteCells d
theorem fillRow_step (n : Nat) (x : ByteArray) (d : List UInt8) : (fillRow (x.size + n) d).take n ++ byteCells x.data.toList ++ (fillRow (x.size + n) d).drop (n + x.size) = fillRow n (x.data.toList ++ d) := by
  unfold fillRow
  rw [List.take_append_of_le_length (by simp), List.take_replicate, List.drop_append_of_le_length (by simp; omega), List.drop_replicate, byteCells_app]
  have e1 : min n (x.size + n) = n := by omega
  have e2 : x.size + n - (n + x.size) = 0 := by omega
  rw [e1, e2]
  simp
theorem fillRow_length (n : Nat) (d : List UInt8) : (fillRow n d).length = n + d.length := by simp [fillRow, byteCells]

set_option maxRecDepth 100000 in
set_option maxHeartbeats 1000000 in
theorem logString_any (W : World) (cb : Nat) (l : List ByteArray) (lp : Option Addr) (h : LogAt W cb l (.pointer lp)) (hn : logSize l ≤ 100000000000000) :
    Calls Tryz.prog 98 #[.agg #[.pointer lp, .int .i64 (logSize l)]] W fun e w' => e = .returned (.string (BA (logB l))) ∧ Below W.heap.size W w' := by
  obtain ⟨i0, hi, hz0, hz1, hz2⟩ := info_parts Tryz.infoU8
  have hmk := run_make (P := Tryz.prog) (W.alloc (.cells #[.pointer lp, .int .i64 (logSize l)] 115)) 83 5 i0 (.int .u8 0) Tryz.underlying83 hi hz0 .i64 .i64 (logSize l) (logSize l) (by omega) (by omega) (by rw [hz2]; omega) (by omega)
  rw [Int.toNat_natCast, hz1, show (Value.int .u8 0).cells = #[Value.int .u8 0] from rfl, made_zero] at hmk
  simp only [World.size_alloc] at hmk
  have HB0 : Hid (Below W.heap.size W ((W.alloc (.cells #[.pointer lp, .int .i64 (logSize l)] 115)).alloc (.cells (List.replicate (logSize l) (Value.int .u8 0)).toArray 5))) := ((Below.refl _ _).alloc (Nat.le_refl _) _).alloc (by simp) _
  have HK0 : Hid (Blk ((W.alloc (.cells #[.pointer lp, .int .i64 (logSize l)] 115)).alloc (.cells (List.replicate (logSize l) (Value.int .u8 0)).toArray 5)) (W.heap.size + 1) 5 (fillRow (logSize l) [])) := by
    have := Blk.new (W.alloc (.cells #[.pointer lp, .int .i64 (logSize l)] 115)) 5 (List.replicate (logSize l) (Value.int .u8 0))
    simp only [World.size_alloc] at this
    have e : fillRow (logSize l) [] = List.replicate (logSize l) (Value.int .u8 0) := by simp [fillRow, byteCells]
    rw [e]
    exact this
  have HLg := hide h
  clear h
  obtain ⟨n, hnl⟩ : ∃ n, n = logSize l := ⟨_, rfl⟩
  rw [← hnl] at hmk HB0 HK0 hn ⊢
  have HNl := hide hnl
  clear hnl
  go_enter Tryz.func98, Tryz.ntmps98
  go_wp2
  clear hmk
  go_loopw [4, 5] (fun ev pv wr => ∃ (d r : List ByteArray) (m : Nat) (p : Option Addr), Hid (l = d ++ r) ∧ Hid (m = logSize r) ∧ m ≤ n ∧ ev = .int .i64 m ∧ pv = .pointer p ∧ Hid (LogAt W cb r (.pointer p)) ∧ Hid (Blk wr (W.heap.size + 1) 5 (fillRow m (logB d))) ∧ Hid (Below W.heap.size W wr)) (fun _ pv _ => ptrRank pv)
  case atStart => exact ⟨[], l, n, lp, rfl, HNl.out, Nat.le_refl _, rfl, rfl, HLg.out, HK0.out, HB0.out⟩
  case round =>
    obtain ⟨d, r, m, p, HD, HM, hm, rfl, rfl, HL, HK, HB⟩ := hrel
    clear HK0 HB0 HLg
    have hws := HB.out.size
    cases r with
    | nil =>
      have hp : p = none := by have h := HL.out; simp only [LogAt] at h; cases h; rfl
      subst hp
      have hm0 : m = 0 := HM.out
      have HE : Hid (l = d) := by have := HD.out; rw [List.append_nil] at this; exact this
      have hK := HK.out
      rw [hm0] at hK
      have hdn : (logB d).length = n := by rw [logB_length, ← HE.out, HNl.out]
      have hfz : fillRow 0 (logB d) = byteCells (logB d) := by simp [fillRow]
      rw [hfz] at hK
      have hcv := run_convert_bytes_back (P := Tryz.prog) wr 83 9 5 ⟨W.heap.size + 1, 0, none⟩ n (logB d) Tryz.underlying83 Tryz.underlying5 Tryz.underlying9 (fun j hj => by
        have e : (⟨W.heap.size + 1, 0, none⟩ : Addr).add j = ⟨W.heap.size + 1, j, none⟩ := by simp [Addr.add]; exact fun h => h.symm
        rw [e]
        exact hK.cell (by simp [byteCells, hj]))
      rw [hdn] at hcv
      clear hK hdn hfz
      go_wp2
      go_ret
      rw [HE.out]
      exact ⟨rfl, HB.out⟩
    | cons x r =>
      obtain ⟨g, q, hp, ⟨hg, hq⟩, hb, hr⟩ := HL.out
      cases hp
      obtain ⟨qa, rfl⟩ := hr.ptr
      have hgw := Blk.lt hb
      have hb2 := Blk.below hb HB.out hgw
      have c0 := hb2.cell (i := 0) rfl
      have c1 := hb2.cell (i := 1) rfl
      obtain ⟨k, hk⟩ : ∃ k, k = logSize r := ⟨_, rfl⟩
      have hmk : m = x.size + k := by rw [hk, HM.out, logSize_cons]
      have HK2 := hide hk
      have HR := hide hr
      have HD2 : Hid (l = (d ++ [x]) ++ r) := by show _ = _; rw [HD.out]; simp
      have hLB : logB (d ++ [x]) = x.data.toList ++ logB d := by rw [logB_app]; simp [logB]
      have hKb := HK.out
      rw [hmk] at hKb hm ⊢
      have hsz : (fillRow (x.size + k) (logB d)).length = n := by
        rw [fillRow_length, logB_length]
        have h1 := HNl.out
        rw [HD.out, logSize_app, logSize_cons] at h1
        omega
      clear hb hb2 hr hk hmk HM HD HK HL
      by_cases hx0 : x.size = 0
      · have hce : ∀ (dd : Option Addr) (a b ty : Nat) (W' : World), (Builtin.copy_ #[83, 9] ty #[.slice dd a b, .string x]).run Tryz.prog W' = .ok (goInt 0) W' := fun dd a b ty W' => run_copy_empty_string (P := Tryz.prog) W' _ _ ty 5 dd a b x Tryz.underlying83 (by rw [hi]; simp) hx0
        have HKn : Hid (Blk wr (W.heap.size + 1) 5 (fillRow k (logB (d ++ [x])))) := by
          have e : x.data.toList = [] := List.eq_nil_of_length_eq_zero (by simpa using hx0)
          rw [hLB, e, List.nil_append]
          rw [hx0, Nat.zero_add] at hKb
          exact hKb
        have hkn : k ≤ n := by omega
        clear hKb hsz hLB
        go_wp2
        go_region
        go_wp2
        go_roundw
        case rel => exact ⟨d ++ [x], r, k, qa, HD2.out, HK2.out, hkn, rfl, rfl, HR.out, Blk.drewN HKn.out 1, below_drewN HB.out 1⟩
        case measure => exact Nat.lt_succ_of_le hq
      · have hnk : ¬ n = k := by omega
        have hcp : ∀ ty, (Builtin.copy_ #[83, 9] ty #[.slice (some ⟨W.heap.size + 1, k, none⟩) (n - k) (n - k), .string x]).run Tryz.prog wr.drew = .ok (goInt x.size) (wr.drew.setRow (W.heap.size + 1) (fillRow k (logB (d ++ [x]))).toArray) := fun ty => by
          have h := run_copy_row_string (P := Tryz.prog) wr.drew 83 9 ty 5 (W.heap.size + 1) k (n - k) (n - k) x _ 5 Tryz.underlying83 (by rw [hi]; simp [hz1]) hKb (by omega) (by simp only [List.size_toArray]; omega)
          rw [h]
          congr 3
          rw [hLB, ← fillRow_step]
        have HKn : Hid (Blk (wr.drew.setRow (W.heap.size + 1) (fillRow k (logB (d ++ [x]))).toArray) (W.heap.size + 1) 5 (fillRow k (logB (d ++ [x])))) := setRow_heap wr.drew (W.heap.size + 1) _ _ 5 (0, 0) hKb
        have HBn : Hid (Below W.heap.size W (wr.drew.setRow (W.heap.size + 1) (fillRow k (logB (d ++ [x]))).toArray)) := HB.out.drew.trans (below_setRow _ _ _ _ (by omega))
        have hkn : k ≤ n := by omega
        have c0n : (wr.drew.setRow (W.heap.size + 1) (fillRow k (logB (d ++ [x]))).toArray).cell? ⟨g, 0, none⟩ = some (.pointer qa) := (World.cell?_of_block (a := ⟨g, 0, none⟩) ((below_setRow wr.drew (W.heap.size + 1) (W.heap.size + 1) _ (Nat.le_refl _)).block g (by omega))).trans c0
        clear hKb hsz hLB
        go_wp2
        go_region
        all_goals
          go_wp2
          go_roundw
          case rel => exact ⟨d ++ [x], r, k, qa, HD2.out, HK2.out, hkn, val_int (by omega), rfl, HR.out, HKn.out, HBn.out⟩
          case measure => exact Nat.lt_succ_of_le hq
set_option maxHeartbeats 400000 in
theorem rLog_any (W : World) (cb o : Nat) (r : RS) (sv lp : Value) (h : RepAt W cb o r sv lp) (hn : logSize r.log ≤ 100000000000000) :
    Calls Tryz.prog 66 #[.pointer (some ⟨cb, o, none⟩)] W fun e w' => e = .returned (.string (BA (logB r.log))) ∧ Below W.heap.size W w' := by
  obtain ⟨p, rfl⟩ := h.log.ptr
  have C := hide (logString_any W cb r.log p h.log hn)
  have c2 := h.c2
  have c3 := h.c3
  clear h hn
  generalize logSize r.log = n at *
  go_enter Tryz.func66, Tryz.ntmps66
  go_wp2_with fail
  refine C.out.mono ?_
  rintro e w1 ⟨rfl, hb⟩
  have HB := hide hb
  clear hb C
  go_wp2
  go_ret
  exact ⟨rfl, HB.out⟩
set_option maxHeartbeats 400000 in
theorem rFrame_raw (W : World) (cb o : Nat) (r : RS) (sv lp : Value) (h : RepAt W cb o r sv lp) (hok : BatchOk r.bs) (hlim : LimitsOk r.bs) (hrng : InRange r.bs) (hT : Tabs W) :
    Calls Tryz.prog 70 #[.pointer (some ⟨cb, o, none⟩)] W fun e w' => e = .returned (.string (frB r.bs)) ∧ Below W.heap.size W w' := by
  obtain ⟨sa, sc, rfl⟩ := fresh_shape h.ser
  have hF := fits_of hok hlim
  have hpb := payload_bounds hF
  have C : Hid (Calls Tryz.prog 47 #[.slice sa r.bs.length sc] W fun e w' => e = .returned (.string (frB r.bs)) ∧ Below W.heap.size W w') := Pack_any W.heap.size _ r.bs W (h.ser.batchAt hrng) (Nat.le_refl _) hT hF hpb.1 hpb.2
  have c1 := h.c1
  clear h hok hlim hrng hT hF hpb
  go_enter Tryz.func70, Tryz.ntmps70
  go_wp2_with fail
  refine C.out.mono ?_
  rintro e w1 ⟨rfl, hb⟩
  have HB := hide hb
  clear hb C
  go_wp2
  go_ret
  exact ⟨rfl, HB.out⟩
theorem rFrame_any (W : World) (cb o M : Nat) (r : RS) (sv lp : Value) (h : RepAt W cb o r sv lp) (hk : RepOk M r) (hT : Tabs W) :
    Calls Tryz.prog 70 #[.pointer (some ⟨cb, o, none⟩)] W fun e w' => e = .returned (.string (frB r.bs)) ∧ Below W.heap.size W w' := rFrame_raw W cb o r sv lp h hk.ok hk.lim hk.rng hT
end Go.Proofs.YtamcclcbmenjdaaGreatDoor

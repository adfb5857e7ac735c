/- 'choirkeep.Sound', for any list of steps (200 of them are done): whatever happens, each replica has nothing but what was written somewhere; and as long as it is up, what it once had. The first form's statement and its card: no condition beside the row's own. -/
import Derived.Test.YtamcclcbmenjdaaGreatDoorSoundG32
import Derived.Test.YtamcclcbmenjdaaGreatDoorSoundG19
import Derived.Test.YtamcclcbmenjdaaGreatDoorSoundG13
import Derived.Test.YtamcclcbmenjdaaGreatDoorSoundG5
import Derived.Deep.DeepAppendRoom
import Derived.Test.YtamcclcbmenjdaaGreatDoorSoundG6
import Derived.Test.YtamcclcbmenjdaaGreatDoorSoundG1
/- choir.Merge. -/
namespace Go.Proofs.YtamcclcbmenjdaaGreatDoor
open Go.RowKit Go.Lib

theorem Tryz.infoSers : (Tryz.prog.info? 39).map (fun i => (i.zero, i.size, i.bytes)) = some (some (.slice none 0 0), 1, 24) := by kernel_rfl
/-- A row of texts in memory. -/
def FramesAt (w : World) (v : Value) (fs : List ByteArray) : Prop :=
  ∃ a cap, v = .slice a fs.length cap ∧ ∀ i s, fs[i]? = some s → ∃ b o, a = some ⟨b, o, none⟩ ∧ b < w.heap.size ∧ w.cell? ⟨b, o + i, none⟩ = some (.string s)
/-- The batches of frames. -/
def gots (fs : List ByteArray) : List (List Ser) := fs.map fun s => got s.data.toList
theorem ranged_join {bss : List (List Ser)} {j : List Ser} (h : ∀ bs ∈ bss, ∀ s ∈ bs, Ranged s) (hj : IsJoin bss j) : ∀ s ∈ j, Ranged s := fun s hs x hx => by
  obtain ⟨⟨bs, hbs, r, hr, _, hm⟩, _⟩ := (hj.holds s.1 x.1 x.2).1 ⟨s, hs, rfl, hx⟩
  exact h bs hbs r hr _ hm
theorem flat_len {bss : List (List Ser)} (h : ∀ bs ∈ bss, bs.length ≤ 8) : bss.flatten.length ≤ 8 * bss.length := by
  induction bss with
  | nil => simp
  | cons a r ih =>
    have h1 := h a (List.mem_cons_self ..)
    have h2 := ih fun x hx => h x (List.mem_cons_of_mem _ hx)
    rw [List.flatten_cons, List.length_append, List.length_cons]; omega
theorem one_cells (w : World) (u : Value) (t : TypeId) : ∀ j x, [u][j]? = some x → (w.alloc (.cells #[u] t)).cell? ((⟨w.heap.size, 0, none⟩ : Addr).add j) = some x := cells_new w [u] t
/-- What Merge answers. -/
def MergeOf (fs : List ByteArray) (e : Ending) : Prop :=
  ((∀ s ∈ fs, IsFrame s.data.toList) ∧ ∃ j n, IsJoin (gots fs) j ∧ Code j n ∧ e = .returned (.tuple #[.string (if n = 0 then ⟨(frameOf (payload j)).toArray⟩ else ByteArray.empty), .int .i64 n])) ∨ ((¬ ∀ s ∈ fs, IsFrame s.data.toList) ∧ e = .returned (.tuple #[.string ByteArray.empty, .int .i64 3]))

set_option maxRecDepth 100000 in
set_option maxHeartbeats 1000000 in
theorem merge_any (W : World) (v : Value) (fs : List ByteArray) (hv : FramesAt W v fs) (hs : ∀ s ∈ fs, s.size ≤ 140737488355328) (hn : fs.length ≤ 10000000) (hT : Tabs W) :
    Calls Tryz.prog 11 #[v] W fun e w' => MergeOf fs e ∧ Below W.heap.size W w' := by
  obtain ⟨i0, hi, hz0, hz1, hz2⟩ := info_parts Tryz.infoSers
  obtain ⟨va, vc, rfl, hv⟩ := hv
  have h3 := hT.lt
  have HV := hide hv
  have HS := hide hs
  have HT := hide hT
  clear hv hs hT
  go_enter Tryz.func11, Tryz.ntmps11
  go_wp2_with (first | (at_make; refine wpList_make_own _ rfl _ _ 24 rfl W.heap.size 39 i0 _ 1 Tryz.underlying24 hi hz0 hz1 .i64 .i64 _ fs.length rfl rfl rfl (by rw [hz2]; omega) (by unfold maxLen; omega) (by simp) ?_; intro w2 hown2 hgrow2))
  have HO2 := hide hown2
  have HB2 : Hid (Below W.heap.size W w2) := (Below.refl _ _).grown hgrow2 (Nat.le_refl _) (fun k e => (by cases e))
  clear hown2 hgrow2
  go_wp2
  go_loopw [4, 6, 7, 8, 16] (fun bv _ _ _ i wr => ∃ (k : Nat) (vs : List Value), k ≤ fs.length ∧ i = .int .i64 k ∧ bv = .slice (some ⟨W.heap.size, 0, none⟩) k fs.length ∧ Hid (vs.length = k) ∧ Hid (wr.ownsRow W.heap.size 39 1 (.slice (some ⟨W.heap.size, 0, none⟩) k fs.length) k vs) ∧ Hid (∀ (i : Nat) (u : Value) (s : ByteArray), vs[i]? = some u → fs[i]? = some s → IsFrame s.data.toList ∧ FreshD wr (W.heap.size + 1) u (got s.data.toList)) ∧ Hid (Below W.heap.size W wr)) (fun _ _ _ _ i _ => fs.length - (intOf i).toNat)
  case atStart => exact ⟨0, [], Nat.zero_le _, rfl, rfl, rfl, by show w2.ownsRow _ _ _ _ _ _; simpa using HO2.out, (fun i u s h _ => by simp at h), HB2.out⟩
  case round =>
    clear HO2 HB2
    obtain ⟨k, vs, hk, rfl, rfl, HVl, HO, HF, HB⟩ := hrel
    have hws := HB.out.size
    have hgl := (World.ownsRow.lt HO.out W.heap.size rfl).2
    by_cases hlt : k < fs.length
    · obtain ⟨s, hx⟩ : ∃ s, fs[k]? = some s := ⟨_, List.getElem?_eq_getElem hlt⟩
      obtain ⟨b, o, rfl, hb0, c0⟩ := HV.out k s hx
      have k0 := (HB.out.cell (p := ⟨b, o + k, none⟩) hb0).trans c0
      have hss := HS.out s (List.mem_of_getElem? hx)
      have hTr := HT.out.below HB.out h3
      have C := hide (unpack_any s wr hss hTr)
      have HX := hide hx
      have i1 : (k : Int) < (fs.length : Int) := by omega
      clear c0 hx hTr
      go_wp2_with fail
      refine C.out.mono ?_
      rintro e w3 ⟨⟨hF, u, rfl, hf3⟩ | ⟨hno, rfl⟩, hb3⟩
      · have hs3 := hb3.size
        obtain ⟨ua, uc, rfl⟩ := hf3.shape
        have HO3 := hide (own_kept HO.out (w' := w3) fun q e => by cases e; exact hb3.block _ hgl)
        have HF3 : Hid (∀ (i : Nat) (u : Value) (s : ByteArray), vs[i]? = some u → fs[i]? = some s → IsFrame s.data.toList ∧ FreshD w3 (W.heap.size + 1) u (got s.data.toList)) := fun i u s h1 h2 => ⟨(HF.out i u s h1 h2).1, (HF.out i u s h1 h2).2.kept fun q _ hq => hb3.block q hq⟩
        have HFu : Hid (IsFrame s.data.toList ∧ FreshD w3 (W.heap.size + 1) (.slice ua (got s.data.toList).length uc) (got s.data.toList)) := ⟨hF, hf3.mono (by omega)⟩
        have HB3 : Hid (Below W.heap.size W w3) := HB.out.trans (hb3.mono hws)
        clear hF hf3 hb3 C HO HF HB
        go_wp2_with (first | (at_builtin; refine wpList_append_own_spare _ rfl (.tmp 27) (.tmp 29) 24 rfl W.heap.size 39 i0 1 Tryz.underlying24 hi hz1 W.heap.size k fs.length vs rfl (own_alloc HO3.out _) ⟨w3.heap.size, 0, none⟩ 1 1 [.slice ua (got s.data.toList).length uc] rfl rfl (one_cells _ _ _) (one_one rfl) (by omega) ?_; intro w5 hown5 hgrow5) | fail)
        have HO5 := hide hown5
        have HV5 : Hid ((vs ++ [Value.slice ua (got s.data.toList).length uc]).length = k + 1) := by show _ = _; rw [List.length_append, HVl.out]; rfl
        have hkeep : ∀ q, W.heap.size + 1 ≤ q → q < w3.heap.size → w5.heap[q]? = w3.heap[q]? := fun q h1 h2 => (hgrow5.block q (by simp; omega) (fun e => by have := Option.some.inj e; omega)).trans (heap_alloc_old w3 _ h2)
        have HF5 : Hid (∀ (i : Nat) (u : Value) (t : ByteArray), (vs ++ [Value.slice ua (got s.data.toList).length uc])[i]? = some u → fs[i]? = some t → IsFrame t.data.toList ∧ FreshD w5 (W.heap.size + 1) u (got t.data.toList)) := fun i u t hu ht => by
          rcases getElem?_snoc hu with ⟨_, hu⟩ | ⟨hi, rfl⟩
          · exact ⟨(HF3.out i u t hu ht).1, (HF3.out i u t hu ht).2.kept hkeep⟩
          · rw [hi, HVl.out, HX.out] at ht
            cases ht
            exact ⟨HFu.out.1, HFu.out.2.kept hkeep⟩
        have HB5 : Hid (Below W.heap.size W w5) := (HB3.out.alloc (by omega) _).grown hgrow5 (by simp; omega) (fun q e => by cases e; exact Nat.le_refl _)
        clear hown5 hgrow5 hkeep HO3 HF3 HFu HB3 HVl
        go_wp2
        go_roundw
        case rel => exact ⟨k + 1, _, by omega, by go_num, by first | rfl | trivial, HV5.out, HO5.out, HF5.out, HB5.out⟩
        case measure => simp [intOf]; omega
      · have HB3 : Hid (Below W.heap.size W w3) := HB.out.trans (hb3.mono hws)
        have HN : Hid (MergeOf fs (.returned (.tuple #[.string ByteArray.empty, .int .i64 3]))) := .inr ⟨fun h => hno (h s (List.mem_of_getElem? HX.out)), rfl⟩
        clear hno hb3 C HO HF HB
        go_wp2
        go_ret2
        exact ⟨HN.out, HB3.out⟩
    · obtain rfl : k = fs.length := by omega
      have hall : ∀ s ∈ fs, IsFrame s.data.toList := fun s hs => by
        obtain ⟨i, hi, e⟩ := List.mem_iff_getElem.1 hs
        exact (HF.out i _ s (List.getElem?_eq_getElem (by rw [HVl.out]; exact hi)) (by rw [List.getElem?_eq_getElem hi, e])).1
      have hg : ∀ bs ∈ gots fs, BatchOk bs ∧ LimitsOk bs ∧ ∀ s ∈ bs, Ranged s := fun bs hbs => by
        obtain ⟨s, hs, rfl⟩ := List.mem_map.1 hbs
        exact ⟨(hall s hs).batch, (hall s hs).limits, (payR_small (BA (inner s.data.toList))).2⟩
      have hgl' : (gots fs).length = fs.length := by simp [gots]
      have hrows : RowsR wr (.slice (some ⟨W.heap.size, 0, none⟩) fs.length fs.length) (gots fs) := by
        refine ⟨_, fs.length, by rw [hgl'], fun i l hl => ?_⟩
        have hl' : (fs.map fun s => got s.data.toList)[i]? = some l := hl
        rw [List.getElem?_map] at hl'
        obtain ⟨s, hs, rfl⟩ := Option.map_eq_some_iff.1 hl'
        have hi := (List.getElem?_eq_some_iff.1 hs).1
        obtain ⟨u, hu⟩ : ∃ u, vs[i]? = some u := ⟨_, List.getElem?_eq_getElem (by rw [HVl.out]; exact hi)⟩
        have hfr := (HF.out i u s hu hs).2
        obtain ⟨ua, uc, rfl⟩ := hfr.shape
        exact ⟨W.heap.size, 0, ua, uc, rfl, hgl, by rw [Nat.zero_add]; exact own_cell HO.out hu, hfr.batchAt (payR_small (BA (inner s.data.toList))).2⟩
      have hfl := flat_len fun bs hbs => (hg bs hbs).2.1.2
      have hsam := samN_le (bs := (gots fs).flatten) fun s hs => by
        obtain ⟨l, hl, hs⟩ := List.mem_flatten.1 hs
        exact (limits_mem (hg l hl).2.1 s hs).2
      have C2 := hide (joinAll_any wr _ (gots fs) hrows (fun bs hbs => (hg bs hbs).1) (fun s hs => by
        obtain ⟨l, hl, hs⟩ := List.mem_flatten.1 hs
        exact ⟨fit_of (hg l hl).1 (hg l hl).2.1 s hs, (hg l hl).2.2 s hs⟩) (by omega) (by omega) (by omega))
      have HAll := hide hall
      have HG := hide hg
      clear hall hg hgl' hrows hfl hsam HF HO
      go_wp2_with fail
      refine C2.out.mono ?_
      rintro e w4 ⟨j, n, hj, hn2, hb4, hr⟩
      have HB4 : Hid (Below W.heap.size W w4) := HB.out.trans (hb4.mono hws)
      have hs4 := hb4.size
      have HJ := hide hj
      have HC := hide hn2
      rcases hr with ⟨rfl, jv, rfl, hF⟩ | ⟨hm0, rfl⟩
      · have hok : BatchOk j ∧ LimitsOk j := by
          rcases hn2 with ⟨h, _⟩ | ⟨h, _⟩ | ⟨_, h⟩
          · cases h
          · cases h
          · exact h
        have hA : BatchAt w4 w4.heap.size jv j := hF.batchAt (ranged_join (fun bs hbs => (HG.out bs hbs).2.2) hj)
        obtain ⟨ja, jc, rfl, -⟩ := id hA
        have hFi := fits_of hok.1 hok.2
        have hp := payload_bounds hFi
        have C3 := hide (Pack_any w4.heap.size _ j w4 hA (Nat.le_refl _) (HT.out.below HB4.out h3) hFi hp.1 hp.2)
        clear hok hA hFi hp hF hj hn2 hb4 C2 HB
        go_wp2_with fail
        refine C3.out.mono ?_
        rintro e w5 ⟨rfl, hb5⟩
        have HB5 : Hid (Below W.heap.size W w5) := HB4.out.trans (hb5.mono (by omega))
        have HR : Hid (MergeOf fs (.returned (.tuple #[.string ⟨(frameOf (payload j)).toArray⟩, .int .i64 0]))) := .inl ⟨HAll.out, j, 0, HJ.out, HC.out, rfl⟩
        clear hb5 C3
        go_wp2
        go_ret2
        exact ⟨HR.out, HB5.out⟩
      · have h2 : ((n : Int) == 0) = false := by simp [hm0]
        have h4 : ¬ (n : Int) = 0 := by omega
        have HR : Hid (MergeOf fs (.returned (.tuple #[.string ByteArray.empty, .int .i64 n]))) := .inl ⟨HAll.out, j, n, HJ.out, HC.out, by rw [if_neg hm0]⟩
        clear hj hn2 hb4 C2 HB
        go_wp2
        go_ret2
        exact ⟨HR.out, HB4.out⟩
end Go.Proofs.YtamcclcbmenjdaaGreatDoor

/- A replica's log and its Write. -/
namespace Go.Proofs.YtamcclcbmenjdaaGreatDoor
open Go.RowKit Go.Lib

set_option maxRecDepth 100000 in
set_option maxHeartbeats 400000 in
theorem logWith_any (w : World) (p : Option Addr) (n : Nat) (s : ByteArray) (hn : n + s.size ≤ 4611686018427387904) :
    Calls Tryz.prog 95 #[.agg #[.pointer p, .int .i64 n], .string s] w fun e w' => e = .returned (.agg #[.pointer (some ⟨w.heap.size + 2, 0, none⟩), .int .i64 ((n : Int) + (s.size : Int))]) ∧ Blk w' (w.heap.size + 2) 182 [.pointer p, .string s] ∧ Below w.heap.size w w' := by
  go_enter Tryz.func95, Tryz.ntmps95
  have HB : Hid (Below w.heap.size w (((w.alloc (.cells #[.pointer p, .int .i64 n] 115)).alloc (.cells #[.pointer (some ⟨w.heap.size + 1 + 1, 0, none⟩), .int .i64 ((n : Int) + (s.size : Int))] 115)).alloc (.cells #[.pointer p, .string s] 182))) := (((Below.refl _ _).alloc (Nat.le_refl _) _).alloc (by simp) _).alloc (by simp; omega) _
  have HP : Hid (Blk (((w.alloc (.cells #[.pointer p, .int .i64 n] 115)).alloc (.cells #[.pointer (some ⟨w.heap.size + 1 + 1, 0, none⟩), .int .i64 ((n : Int) + (s.size : Int))] 115)).alloc (.cells #[.pointer p, .string s] 182)) (w.heap.size + 2) 182 [.pointer p, .string s]) := by
    have := Blk.new ((w.alloc (.cells #[.pointer p, .int .i64 n] 115)).alloc (.cells #[.pointer (some ⟨w.heap.size + 1 + 1, 0, none⟩), .int .i64 ((n : Int) + (s.size : Int))] 115)) 182 [.pointer p, .string s]
    simp only [World.size_alloc] at this
    exact this
  go_wp2
  (try simp only [Exit.inBlock, Exit.then])
  refine bodyPost_ret (v := .agg #[.pointer (some ⟨w.heap.size + 1 + 1, 0, none⟩), .int .i64 ((n : Int) + (s.size : Int))]) (by rw [results_cell1Q rfl]; go_simp) rfl ?_
  exact ⟨rfl, HP.out, HB.out⟩
/-- The frame of a batch. -/
def frB (b : List Ser) : ByteArray := BA (frameOf (payload b))
theorem frB_size {b : List Ser} (h : Fits b) : (frB b).size ≤ 60011 := by
  have := (payload_bounds h).1
  unfold frB
  rw [BA_size, frameOf_length]; omega
/-- What a replica has is a batch within limits, its log no longer than M. -/
structure RepOk (M : Nat) (r : RS) : Prop where
  ok : BatchOk r.bs
  lim : LimitsOk r.bs
  rng : InRange r.bs
  len : logSize r.log ≤ M
  la : r.la ≤ logSize r.log
/-- What Write makes of a replica, and its answer. -/
def WriteOf (r : RS) (b : List Ser) (n : Nat) (r' : RS) : Prop :=
  (Code b n ∧ n ≠ 0 ∧ r' = r) ∨ (Code b 0 ∧ ∃ j, IsJoin [r.bs, b] j ∧ Code j n ∧ ((n ≠ 0 ∧ r' = r) ∨ (n = 0 ∧ j = r.bs ∧ r' = r) ∨ (n = 0 ∧ j ≠ r.bs ∧ r' = { r with bs := j, log := frB b :: r.log })))
theorem LogAt.ptr {w : World} {cb : Nat} {l : List ByteArray} {v : Value} (h : LogAt w cb l v) : ∃ p, v = .pointer p := by
  cases l with
  | nil => exact ⟨none, h⟩
  | cons x r => obtain ⟨g, p, hv, _⟩ := h; exact ⟨_, hv⟩
theorem logSize_cons (x : ByteArray) (l : List ByteArray) : logSize (x :: l) = x.size + logSize l := by simp [logSize]
theorem fresh_shape {w : World} {base : Nat} {v : Value} {bs : List Ser} (h : Fresh w base v bs) : ∃ a c, v = .slice a bs.length c := by
  obtain ⟨vals, ho, _⟩ := h
  exact own_shape ho
theorem code0 {b : List Ser} (h : Code b 0) : BatchOk b ∧ LimitsOk b := by
  rcases h with ⟨h, _⟩ | ⟨h, _⟩ | ⟨_, h⟩
  · cases h
  · cases h
  · exact h
theorem small_of_limits {a : List Ser} (h : LimitsOk a) : Small a := by
  have h1 := limits_mem h
  exact ⟨by have := h.2; omega, fun s hs => by have := (h1 s hs).1; omega, fun s hs => by have := (h1 s hs).2; omega⟩
/-- The last step of Write: two cells of the log. -/
theorem RepAt.grow {w : World} {cb o : Nat} {r : RS} {sv lp lp' : Value} {x : ByteArray} (h : RepAt w cb o r sv lp) (hl : LogAt w cb (x :: r.log) lp') : RepAt ((w.setCell ⟨cb, o + 2, none⟩ lp').setCell ⟨cb, o + 3, none⟩ (.int .i64 ((logSize r.log : Int) + (x.size : Int)))) cb o { r with log := x :: r.log } sv lp' := by
  have ht : Turn0 w ((w.setCell ⟨cb, o + 2, none⟩ lp').setCell ⟨cb, o + 3, none⟩ (.int .i64 ((logSize r.log : Int) + (x.size : Int)))) cb (o + 2) (o + 4) := ((Turn0.refl w cb _ _).set _ _ (Nat.le_refl _) (by omega)).set _ _ (by omega) (by omega)
  have e2 : (w.setCell ⟨cb, o + 2, none⟩ lp').cell? ⟨cb, o + 2, none⟩ = some lp' := World.cell?_setCell_same _ _ _ h.c2
  have e3 : (w.setCell ⟨cb, o + 2, none⟩ lp').cell? ⟨cb, o + 3, none⟩ = some (.int .i64 (logSize r.log)) := (World.cell?_setCell_other _ _ _ _ (fun e => by have : o + 2 = o + 3 := congrArg Addr.off e; omega)).trans h.c3
  refine ⟨(ht.cells _ (by omega)).trans h.c0, (ht.cells _ (by omega)).trans h.c1, (World.cell?_setCell_other _ _ _ _ (fun e => by have : o + 3 = o + 2 := congrArg Addr.off e; omega)).trans e2, ?_, (ht.cells _ (by omega)).trans h.c4, fun i => (ht.frozen i).trans (h.fr i), fresh_turn0 h.ser ht, hl.kept ht.block⟩
  have e4 : (((logSize (x :: r.log) : Nat)) : Int) = (logSize r.log : Int) + (x.size : Int) := by rw [logSize_cons]; omega
  show _ = some (Value.int .i64 ((logSize (x :: r.log) : Nat) : Int))
  rw [e4]
  exact World.cell?_setCell_same _ _ _ e3
theorem RepAt.series {w : World} {cb o : Nat} {r : RS} {sv sv' lp : Value} {j : List Ser} (h : RepAt w cb o r sv lp) (hf : Fresh w (cb + 1) sv' j) : RepAt (w.setCell ⟨cb, o + 1, none⟩ sv') cb o { r with bs := j } sv' lp := by
  have ht : Turn0 w (w.setCell ⟨cb, o + 1, none⟩ sv') cb (o + 1) (o + 2) := (Turn0.refl w cb _ _).set _ _ (Nat.le_refl _) (by omega)
  exact ⟨(ht.cells _ (by omega)).trans h.c0, World.cell?_setCell_same _ _ _ h.c1, (ht.cells _ (by omega)).trans h.c2, (ht.cells _ (by omega)).trans h.c3, (ht.cells _ (by omega)).trans h.c4, fun i => (ht.frozen i).trans (h.fr i), fresh_turn0 hf ht, h.log.kept ht.block⟩

/-- What Write leaves. -/
def RWEnd (W w' : World) (cb o : Nat) (r : RS) (b : List Ser) (e : Ending) : Prop := ∃ (n : Nat) (r' : RS) (sv' lp' : Value), e = .returned (.int .i64 n) ∧ WriteOf r b n r' ∧ RepAt w' cb o r' sv' lp' ∧ Turn W w' cb o (o + 5)
/-- A list that reads so as long as all but block cb is as it was. -/
def SafeB (W : World) (cb : Nat) (v : Value) (b : List Ser) : Prop := ∀ w', W.heap.size ≤ w'.heap.size → (∀ k, k < W.heap.size → k ≠ cb → w'.heap[k]? = W.heap[k]?) → BatchAt w' w'.heap.size v b
theorem SafeB.here {W : World} {cb : Nat} {v : Value} {b : List Ser} (h : SafeB W cb v b) : BatchAt W W.heap.size v b := h W (Nat.le_refl _) fun _ _ _ => rfl
theorem SafeB.turn {W w : World} {cb lo hi : Nat} {v : Value} {b : List Ser} (h : SafeB W cb v b) (ht : Turn W w cb lo hi) : SafeB w cb v b := fun w' hs hk => h w' (Nat.le_trans ht.size hs) fun k h1 h2 => (hk k (Nat.lt_of_lt_of_le h1 ht.size) h2).trans (ht.block k h1 h2)
theorem safe_fresh {W : World} {cb : Nat} {v : Value} {b : List Ser} (h : Fresh W (cb + 1) v b) (hr : InRange b) : SafeB W cb v b := fun w' _ hk => by
  obtain ⟨vals, ho, hs⟩ := h
  exact Fresh.batchAt (base := cb + 1) ⟨vals, own_kept ho fun k e => hk k (World.ownsRow.lt ho k e).2 (by have := (World.ownsRow.lt ho k e).1; omega), hs.kept fun k h1 h2 => hk k h2 (by omega)⟩ hr

set_option maxRecDepth 100000 in
set_option maxHeartbeats 1000000 in
theorem rWrite_any (W : World) (cb o M : Nat) (r : RS) (sv lp vb : Value) (b : List Ser) (h : RepAt W cb o r sv lp) (hk : RepOk M r) (hM : M ≤ 4611686018000000000) (hsf : SafeB W cb vb b) (hsm : Small b) (hr : InRange b) (hT : Tabs W) (hcb : 2 < cb) :
    Calls Tryz.prog 90 #[.pointer (some ⟨cb, o, none⟩), vb] W fun e w' => RWEnd W w' cb o r b e := by
  have hb := hsf.here
  obtain ⟨va, vc, rfl, -⟩ := id hb
  have HSf := hide hsf
  clear hsf
  obtain ⟨sa, sc, rfl⟩ := fresh_shape h.ser
  obtain ⟨lpa, rfl⟩ := h.log.ptr
  have hlt := h.lt
  have hb1 : Below W.heap.size W (W.alloc (.cells #[.slice va b.length vc] 39)) := (Below.refl _ _).alloc (Nat.le_refl _) _
  have C1 := hide (check_any W.heap.size W.heap.size _ b (W.alloc (.cells #[.slice va b.length vc] 39)) (World.cell?_alloc_new _ _ _ 0) (hb.below hb1 (Nat.le_refl _)) (by simp) (by simp) hsm)
  have H := hide h
  have HK := hide hk
  have HBt := hide hb
  have HSm := hide hsm
  have HRg := hide hr
  have HT := hide hT
  have HB1 := hide hb1
  clear h hk hb hsm hr hT hb1
  go_enter Tryz.func90, Tryz.ntmps90
  go_wp2_with fail
  refine C1.out.mono ?_
  rintro e w1 ⟨⟨n, rfl, hn⟩, hb1⟩
  have hs1 : W.heap.size ≤ w1.heap.size := by have := hb1.size; simp at this; omega
  have HB2 := hide (HB1.out.trans (hb1.mono (by simp)))
  have HN := hide hn
  clear hb1 C1 HB1
  by_cases hn0 : n = 0
  · subst hn0
    obtain ⟨hok, hlim⟩ := code0 hn
    have H1 := hide (H.out.below HB2.out)
    have c1 := H1.out.c1
    have HF1 := hide (H1.out.ser.batchAt HK.out.rng)
    have hb2 := batch_on HBt.out HB2.out
    have hbA : Below w1.heap.size w1 (w1.alloc (.cells #[.slice sa r.bs.length sc, .slice va b.length vc] 39)) := (Below.refl _ _).alloc (Nat.le_refl _) _
    have hrows : RowsR (w1.alloc (.cells #[.slice sa r.bs.length sc, .slice va b.length vc] 39)) (.slice (some ⟨w1.heap.size, 0, none⟩) 2 2) [r.bs, b] := by
      refine ⟨_, 2, rfl, ?_⟩
      exact two_get ⟨w1.heap.size, 0, sa, sc, rfl, by simp, World.cell?_alloc_new _ _ _ 0, batch_on HF1.out hbA⟩ ⟨w1.heap.size, 0, va, vc, rfl, by simp, World.cell?_alloc_new _ _ _ 1, batch_on hb2 hbA⟩
    have hlr := HK.out.lim
    have hm1 := limits_mem hlr
    have hm2 := limits_mem hlim
    have hs8 := hlr.2
    have ht8 := hlim.2
    have hfl : [r.bs, b].flatten = r.bs ++ b := by simp
    have hsam : samN [r.bs, b].flatten ≤ 1000000000000 := by
      rw [hfl, samN_app]
      have h1 := samN_le fun s hs => (hm1 s hs).2
      have h2 := samN_le fun s hs => (hm2 s hs).2
      omega
    have C2 := hide (joinAll_any _ _ [r.bs, b] hrows (two_all.2 ⟨HK.out.ok, hok⟩) (fun s hs => by
      rw [hfl] at hs
      rcases List.mem_append.1 hs with h | h
      · exact ⟨fit_of HK.out.ok hlr s h, HK.out.rng s h⟩
      · exact ⟨fit_of hok hlim s h, HRg.out s h⟩) (by simp) (by rw [hfl, List.length_append]; omega) hsam)
    have HOk := hide hok
    have HLim := hide hlim
    clear hrows hsam hfl hm1 hm2 hok hlim hlr hb2 hbA hn
    go_wp2_with fail
    refine C2.out.mono ?_
    rintro e w2 ⟨j, m, hj, hm, hb2, hr⟩
    have hs2 : w1.heap.size ≤ w2.heap.size := by have := hb2.size; simp at this; omega
    have HB3 : Hid (Below w1.heap.size w1 w2) := ((Below.refl _ _).alloc (Nat.le_refl _) _).trans (hb2.mono (by simp))
    have HJ := hide hj
    have HM := hide hm
    clear C2 hj hb2
    rcases hr with ⟨rfl, jv, rfl, hF⟩ | ⟨hm0, rfl⟩
    · have hjl := (code0 hm).2
      have hF2 : Fresh w2 (cb + 1) jv j := by
        obtain ⟨vals, ho, hs⟩ := hF.fresh
        refine ⟨vals, own_mono ho (by simp; omega), hs.1, fun i p x hp hx => ⟨own_mono (hs.2 i p x hp hx).1 (by simp; omega), own_mono (hs.2 i p x hp hx).2 (by simp; omega)⟩⟩
      have HNew : Hid (∀ k, jv.ownBlock = some k → W.heap.size ≤ k) := fun k e => by
        obtain ⟨vals, ho, hs⟩ := hF.fresh
        have h1 := (World.ownsRow.lt ho k e).1
        simp at h1
        omega
      obtain ⟨ja, jc, rfl⟩ := fresh_shape hF2
      have HF2 := hide hF2
      have HJr : Hid (InRange j) := ranged_join (fun bs hbs => by
        rcases List.mem_cons.1 hbs with rfl | hbs
        · exact HK.out.rng
        · rw [List.mem_singleton.1 hbs]; exact HRg.out) HJ.out
      have H2 := hide (H1.out.below HB3.out)
      have c1' := H2.out.c1
      have C3 := hide (bSame_any w2 _ _ j r.bs (hF2.batchAt HJr.out) (H2.out.ser.batchAt HK.out.rng) (small_of_limits hjl) (small_of_limits HK.out.lim))
      clear hF hF2 hm hjl H1 HF1 c1
      go_wp2_with fail
      refine C3.out.mono ?_
      rintro e w3 ⟨⟨sm, rfl, hsm⟩, hb3⟩
      have hs3 := hb3.size
      have H3 := hide (H2.out.below hb3)
      have HB4 : Hid (Below W.heap.size W w3) := HB2.out.trans ((HB3.out.trans (hb3.mono hs2)).mono hs1)
      have HF3 : Hid (Fresh w3 (cb + 1) (.slice ja j.length jc) j) := fresh_turn HF2.out (Turn.of_below (lo := 0) (hi := 0) hb3 H2.out.lt)
      have HSm3 := hide hsm
      clear hb3 hsm C3 H2 HF2 HB2 HB3 c1'
      cases sm with
      | true =>
        have HW : Hid (WriteOf r b 0 r) := .inr ⟨HN.out, j, HJ.out, HM.out, .inr (.inl ⟨rfl, HSm3.out.1 rfl, rfl⟩)⟩
        go_wp2
        go_ret
        exact ⟨0, r, _, _, rfl, HW.out, H3.out, Turn.of_below HB4.out hlt⟩
      | false =>
        have HW : Hid (WriteOf r b 0 { r with bs := j, log := frB b :: r.log }) := .inr ⟨HN.out, j, HJ.out, HM.out, .inr (.inr ⟨rfl, (fun e => by have := HSm3.out.2 e; cases this), rfl⟩)⟩
        have c1 := H3.out.c1
        have f1 := H3.out.fr (o + 1)
        have H4 := hide (H3.out.series HF3.out)
        have HTn4 : Hid (Turn W (w3.setCell ⟨cb, o + 1, none⟩ (.slice ja j.length jc)) cb o (o + 5)) := (Turn.of_below HB4.out hlt).set _ _ (by omega) (by omega) HNew.out
        have c2 := H4.out.c2
        have c3 := H4.out.c3
        have f2 := H4.out.fr (o + 2)
        have f3 := H4.out.fr (o + 3)
        have hbw := HSf.out _ HTn4.out.size HTn4.out.block
        have hT4 : Tabs (w3.setCell ⟨cb, o + 1, none⟩ (.slice ja j.length jc)) := HT.out.kept (HTn4.out.block _ (by omega) (by omega)) (HTn4.out.block _ (by omega) (by omega))
        have hs4 : W.heap.size ≤ (w3.setCell ⟨cb, o + 1, none⟩ (.slice ja j.length jc)).heap.size := HTn4.out.size
        go_wp2
        generalize w3.setCell ⟨cb, o + 1, none⟩ (.slice ja j.length jc) = W4 at *
        have HLs := hide HK.out.len
        have hF : Fits b := fits_of HOk.out HLim.out
        have hfz : (frB b).size ≤ 60011 := frB_size hF
        have hpb := payload_bounds hF
        have CP : Hid (Calls Tryz.prog 47 #[.slice va b.length vc] W4.drew fun e w' => e = .returned (.string (frB b)) ∧ Below W4.heap.size W4 w') := by
          refine (Pack_any W4.heap.size _ b W4.drew (hbw.kept fun _ _ => rfl) (Nat.le_refl _) hT4.drew hF hpb.1 hpb.2).mono fun e w' h => ⟨h.1, ?_⟩
          exact (Below.refl W4.heap.size W4).drew.trans h.2
        have hn63 : logSize r.log + (frB b).size ≤ 4611686018427387904 := by have := HLs.out; omega
        have HC2 := hide c2
        have HC3 := hide c3
        clear hbw hT4 hF hpb c1 f1 H3
        generalize frB b = fb at *
        refine region_anyL (S := fun w' => w'.cell? ⟨cb, o + 2, none⟩ = some (.pointer lpa) ∧ w'.cell? ⟨cb, o + 3, none⟩ = some (.int .i64 (logSize r.log))) 10 (by kernel_rfl) ⟨c2, c3⟩ (fun hS => ?_)
        refine anyL_take 0 (oi := ?zo0) (v := ?zv0) ?zhi0 (by kernel_rfl) (by kernel_rfl) (by kernel_rfl) (by kernel_rfl) (by kernel_rfl) (by kernel_rfl) ?zq0 (Or.inl ⟨?zwa0, ?zy0⟩) hS ?zrest0
        case zhi0 => simp only [List.getElem?_toArray, List.getElem?_cons_zero]; rfl
        case zwa0 => rfl
        case zy0 => intro wz hz; obtain ⟨z1, z2⟩ := hz; go_simp <;> rfl
        case zq0 => exact fun _ _ _ h => h
        simp only [Act.put, List.setIfInBounds_toArray, List.set_cons_zero, List.set_cons_succ]
        refine anyL_take 1 (oi := ?zo1) (v := ?zv1) ?zhi1 (by kernel_rfl) (by kernel_rfl) (by kernel_rfl) (by kernel_rfl) (by kernel_rfl) (by kernel_rfl) ?zq1 (Or.inl ⟨?zwa1, ?zy1⟩) hS ?zrest1
        case zhi1 => simp only [List.getElem?_toArray, List.getElem?_cons_zero, List.getElem?_cons_succ]; rfl
        case zwa1 => rfl
        case zy1 => intro wz hz; obtain ⟨z1, z2⟩ := hz; go_simp <;> rfl
        case zq1 => exact fun _ _ _ h => h
        simp only [Act.put, List.setIfInBounds_toArray, List.set_cons_zero, List.set_cons_succ]
        refine anyL_take 2 (oi := ?zo2) (v := ?zv2) ?zhi2 (by kernel_rfl) (by kernel_rfl) (by kernel_rfl) (by kernel_rfl) (by kernel_rfl) (by kernel_rfl) ?zq2 (Or.inl ⟨?zwa2, ?zy2⟩) hS ?zrest2
        case zhi2 => simp only [List.getElem?_toArray, List.getElem?_cons_zero, List.getElem?_cons_succ]; rfl
        case zwa2 => rfl
        case zy2 => intro wz hz; obtain ⟨z1, z2⟩ := hz; go_simp <;> rfl
        case zq2 => exact fun _ _ _ h => h
        simp only [Act.put, List.setIfInBounds_toArray, List.set_cons_zero, List.set_cons_succ]
        refine anyL_take 3 (oi := ?zo3) (v := ?zv3) ?zhi3 (by kernel_rfl) (by kernel_rfl) (by kernel_rfl) (by kernel_rfl) (by kernel_rfl) (by kernel_rfl) ?zq3 (Or.inl ⟨?zwa3, ?zy3⟩) hS ?zrest3
        case zhi3 => simp only [List.getElem?_toArray, List.getElem?_cons_zero, List.getElem?_cons_succ]; rfl
        case zwa3 => rfl
        case zy3 => intro wz hz; obtain ⟨z1, z2⟩ := hz; go_simp <;> rfl
        case zq3 => exact fun _ _ _ h => h
        simp only [Act.put, List.setIfInBounds_toArray, List.set_cons_zero, List.set_cons_succ]
        refine anyL_take 4 (oi := ?zo4) (v := ?zv4) ?zhi4 (by kernel_rfl) (by kernel_rfl) (by kernel_rfl) (by kernel_rfl) (by kernel_rfl) (by kernel_rfl) ?zq4 (Or.inl ⟨?zwa4, ?zy4⟩) hS ?zrest4
        case zhi4 => simp only [List.getElem?_toArray, List.getElem?_cons_zero, List.getElem?_cons_succ]; rfl
        case zwa4 => rfl
        case zy4 => intro wz hz; obtain ⟨z1, z2⟩ := hz; go_simp <;> rfl
        case zq4 => exact fun _ _ _ h => h
        simp only [Act.put, List.setIfInBounds_toArray, List.set_cons_zero, List.set_cons_succ]
        refine anyL_take 5 (oi := ?zo5) (v := ?zv5) ?zhi5 (by kernel_rfl) (by kernel_rfl) (by kernel_rfl) (by kernel_rfl) (by kernel_rfl) (by kernel_rfl) ?zq5 (Or.inl ⟨?zwa5, ?zy5⟩) hS ?zrest5
        case zhi5 => simp only [List.getElem?_toArray, List.getElem?_cons_zero, List.getElem?_cons_succ]; rfl
        case zwa5 => rfl
        case zy5 => intro wz hz; obtain ⟨z1, z2⟩ := hz; go_simp <;> rfl
        case zq5 => exact fun _ _ _ h => h
        simp only [Act.put, List.setIfInBounds_toArray, List.set_cons_zero, List.set_cons_succ]
        refine anyL_one 6 (o := ?zo6) (by kernel_rfl) ?zhi6 (by kernel_rfl) ?zst6
        case zhi6 => simp only [List.getElem?_toArray, List.getElem?_cons_zero, List.getElem?_cons_succ]; rfl
        intro K hK
        go_simp
        refine CP.out.mono ?_
        rintro e5 w5 ⟨rfl, hb5⟩
        have hs5 := hb5.size
        have H5 := hide (H4.out.below hb5)
        refine hK.out _ _ ⟨H5.out.c2, H5.out.c3⟩ (fun hS2 => ?_)
        have CW := hide (logWith_any w5 lpa (logSize r.log) fb hn63)
        have HTn5 := hide (HTn4.out.trans (Turn.of_below hb5 H4.out.lt))
        clear hK K hS CP hb5 H4 HTn4 HC2 HC3
        refine anyL_one 7 (o := ?zo7) (by kernel_rfl) ?zhi7 (by kernel_rfl) ?zst7
        case zhi7 => simp only [List.getElem?_toArray, List.getElem?_cons_zero, List.getElem?_cons_succ]; rfl
        intro K hK
        go_simp
        refine CW.out.mono ?_
        rintro e6 w6 ⟨rfl, hp6, hb6⟩
        have H6 := hide (H5.out.below hb6)
        have HL6 : Hid (LogAt w6 cb (fb :: r.log) (.pointer (some ⟨w5.heap.size + 2, 0, none⟩))) := ⟨_, _, rfl, ⟨by have := H5.out.lt; omega, by have := H5.out.log.rank; omega⟩, hp6, H6.out.log⟩
        refine hK.out _ _ ⟨H6.out.c2, H6.out.c3⟩ (fun hS3 => ?_)
        have HTn6 := hide (HTn5.out.trans (Turn.of_below hb6 H5.out.lt))
        have d2 := H6.out.c2
        have d3 := H6.out.c3
        have g2 := H6.out.fr (o + 2)
        have g3 := H6.out.fr (o + 3)
        have H7 := hide (H6.out.grow HL6.out)
        have HTn7 : Hid (Turn W ((w6.setCell ⟨cb, o + 2, none⟩ (.pointer (some ⟨w5.heap.size + 2, 0, none⟩))).setCell ⟨cb, o + 3, none⟩ (.int .i64 ((logSize r.log : Int) + (fb.size : Int)))) cb o (o + 5)) := (HTn6.out.set _ _ (by omega) (by omega)).set _ _ (by omega) (by omega)
        clear hK K hS2 CW hp6 hb6 H5 HTn5 H6 HL6 HTn6
        refine anyL_take 8 (oi := ?zo8) (v := ?zv8) ?zhi8 (by kernel_rfl) (by kernel_rfl) (by kernel_rfl) (by kernel_rfl) (by kernel_rfl) (by kernel_rfl) ?zq8 (Or.inl ⟨?zwa8, ?zy8⟩) hS3 ?zrest8
        case zhi8 => simp only [List.getElem?_toArray, List.getElem?_cons_zero, List.getElem?_cons_succ]; rfl
        case zwa8 => rfl
        case zy8 => intro wz hz; obtain ⟨z1, z2⟩ := hz; go_simp <;> rfl
        case zq8 => exact fun _ _ _ h => h
        simp only [Act.put, List.setIfInBounds_toArray, List.set_cons_zero, List.set_cons_succ]
        refine anyL_take 9 (oi := ?zo9) (v := ?zv9) ?zhi9 (by kernel_rfl) (by kernel_rfl) (by kernel_rfl) (by kernel_rfl) (by kernel_rfl) (by kernel_rfl) ?zq9 (Or.inl ⟨?zwa9, ?zy9⟩) hS3 ?zrest9
        case zhi9 => simp only [List.getElem?_toArray, List.getElem?_cons_zero, List.getElem?_cons_succ]; rfl
        case zwa9 => rfl
        case zy9 => intro wz hz; obtain ⟨z1, z2⟩ := hz; go_simp <;> rfl
        case zq9 => exact fun _ _ _ h => h
        simp only [Act.put, List.setIfInBounds_toArray, List.set_cons_zero, List.set_cons_succ]
        refine anyL_last 10 (o := ?zo10) (by kernel_rfl) ?zhi10 (by kernel_rfl) (by kernel_rfl) ?zst10
        case zhi10 => simp only [List.getElem?_toArray, List.getElem?_cons_zero, List.getElem?_cons_succ]; rfl
        intro K hK
        go_simp
        refine hK.out _ _ ?_
        clear hK K hS3
        go_wp2
        go_ret
        exact ⟨0, _, _, _, rfl, HW.out, H7.out, HTn7.out⟩
    · have hnm : m ≠ 0 := hm0
      have H3 := hide (H1.out.below HB3.out)
      have HB4 : Hid (Below W.heap.size W w2) := HB2.out.trans (HB3.out.mono hs1)
      have HW : Hid (WriteOf r b m r) := .inr ⟨HN.out, j, HJ.out, HM.out, .inl ⟨hm0, rfl⟩⟩
      have hmi : ¬ (m : Int) = 0 := by omega
      clear hm H1 HF1 c1
      go_wp2
      go_ret
      exact ⟨m, r, _, _, rfl, HW.out, H3.out, Turn.of_below HB4.out hlt⟩
  · have H1 := hide (H.out.below HB2.out)
    have HW : Hid (WriteOf r b n r) := .inl ⟨HN.out, hn0, rfl⟩
    have hni : ¬ (n : Int) = 0 := by omega
    clear hn
    go_wp2
    go_ret
    exact ⟨n, r, _, _, rfl, HW.out, H1.out, Turn.of_below HB2.out hlt⟩
end Go.Proofs.YtamcclcbmenjdaaGreatDoor

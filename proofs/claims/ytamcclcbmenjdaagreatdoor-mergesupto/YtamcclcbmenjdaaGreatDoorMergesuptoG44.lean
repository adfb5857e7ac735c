/- 'choirlaw.Merges', for any list of texts of bulk at most 1048576: Merge answers the document's frame or error; what is handed in stays. The second form's statement and its card: its only condition is the row's own bound on the argument's bulk. -/
import Derived.Test.YtamcclcbmenjdaaGreatDoorMergesuptoG43
import Derived.Lib.SliceRun
import Derived.Test.YtamcclcbmenjdaaGreatDoorRows
import Derived.Deep.Slices
import Derived.OpenShut
import Derived.SizedLaws
import Derived.ProofKit
/- choirlaw.Merges: the walk. -/
namespace Go.Proofs.YtamcclcbmenjdaaGreatDoor
open Go.RowKit Go.Lib

/-- A list of texts with eight places more, j of them written. -/
def roomT (fs : List ByteArray) (j : Nat) : List Value := Strs fs ++ (List.replicate j (.string bey) ++ List.replicate (8 - j) (.string ByteArray.empty))
theorem roomT_length (fs : List ByteArray) (j : Nat) (h : j ≤ 8) : (roomT fs j).length = fs.length + 8 := by simp [roomT, Strs]; omega
theorem roomT_front (fs : List ByteArray) (j : Nat) {i : Nat} {x : ByteArray} (h : fs[i]? = some x) : (roomT fs j)[i]? = some (.string x) := by
  unfold roomT
  rw [List.getElem?_append_left (by simp [Strs]; exact (List.getElem?_eq_some_iff.1 h).1)]
  simp [Strs, h]
theorem roomT_get (fs : List ByteArray) (j : Nat) (h : j < 8) : (roomT fs j)[fs.length + j]? = some (.string ByteArray.empty) := by
  have hl : (Strs fs).length = fs.length := by simp [Strs]
  unfold roomT
  rw [List.getElem?_append_right (by omega), hl, Nat.add_sub_cancel_left, List.getElem?_append_right (by simp), List.length_replicate, List.getElem?_replicate, if_pos (by omega)]
theorem roomT_set (fs : List ByteArray) (j : Nat) (h : j < 8) : (roomT fs j).set (fs.length + j) (.string bey) = roomT fs (j + 1) := by
  unfold roomT
  rw [List.set_append_right _ _ (by simp [Strs]), List.set_append_right _ _ (by simp [Strs]), show 8 - j = (8 - (j + 1)) + 1 by omega, List.replicate_succ]
  simp [Strs, List.replicate_succ']
theorem roomT_back (fs : List ByteArray) {j : Nat} (h : j < 8) : (roomT fs 8)[fs.length + j]? = some (.string bey) := by
  have hl : (Strs fs).length = fs.length := by simp [Strs]
  unfold roomT
  rw [List.getElem?_append_right (by omega), hl, Nat.add_sub_cancel_left, List.getElem?_append_left (by simp; omega), List.getElem?_replicate, if_pos (by omega)]
theorem roomT_last (fs : List ByteArray) (x : ByteArray) (h : 0 < fs.length) : (roomT fs 8).set (fs.length - 1) (.string x) = roomT (fs.set (fs.length - 1) x) 8 := by
  unfold roomT
  rw [List.set_append_left _ _ (by simp [Strs]; omega)]
  simp [Strs, List.map_set]
theorem run_copy_zero {P : Program} (w : World) (dT sT ty elem size : Nat) (g o dLen dCap : Nat) (a : Option Addr) (sCap : Nat) (hu : P.underlying dT = some (.slice elem)) (hs : (P.info? elem).map (·.size) = some size) :
    (Builtin.copy_ #[dT, sT] ty #[.slice (some ⟨g, o, none⟩) dLen dCap, .slice a 0 sCap]).run P w = .ok (goInt 0) w := by
  cases hq : P.info? elem with
  | none => simp [hq] at hs
  | some i =>
    cases a with
    | none => simp [Builtin.copy_, run_underlying hu, Builtin.lenOf, Builtin.firstCells, sizeOf, typeInfo, hq, storeCells]
    | some ad =>
      have hl := run_loadCells_list (P := P) w ad [] (by simp)
      simp only [List.length_nil] at hl
      simp [Builtin.copy_, run_underlying hu, Builtin.lenOf, Builtin.firstCells, sizeOf, typeInfo, hq, storeCells, hl]
theorem made_strs (n : Nat) : madeCells #[.string ByteArray.empty] (n * 1) = (List.replicate n (Value.string ByteArray.empty)).toArray := by
  apply Array.ext'
  rw [Nat.mul_one]
  apply List.ext_getElem?
  intro i
  simp only [madeCells, Array.toList_map, Array.toList_range]
  by_cases h : i < n
  · simp [h, Nat.mod_one]
  · simp [h]
/-- What make and copy leave. -/
theorem text_start (w : World) (v : Value) (fs : List ByteArray) (hv : FramesAt w v fs) (hn : fs.length ≤ 1000000000000) :
    ∃ w0 w1, (Instr.makeSlice 22 (.int .i64 ((fs.length : Int) + 8)) (.int .i64 ((fs.length : Int) + 8))).run Tryz.prog w = .ok (.slice (some ⟨w.heap.size, 0, none⟩) (fs.length + 8) (fs.length + 8)) w0 ∧
      (∀ ty, (Builtin.copy_ #[22, 22] ty #[.slice (some ⟨w.heap.size, 0, none⟩) (fs.length + 8) (fs.length + 8), v]).run Tryz.prog w0 = .ok (goInt fs.length) w1) ∧
      Blk w1 w.heap.size 9 (roomT fs 0) ∧ Below w.heap.size w w1 := by
  obtain ⟨i0, hi0, hx0, hx1, hx2⟩ := info_parts Tryz.infoStr
  obtain ⟨a, cap, rfl, hc⟩ := hv
  have hm := run_make (P := Tryz.prog) w 22 9 i0 (.string ByteArray.empty) Tryz.underlying22 hi0 hx0 .i64 .i64 ((fs.length : Int) + 8) ((fs.length : Int) + 8) (by omega) (by omega) (by rw [hx2]; omega) (by omega)
  have e8 : ((fs.length : Int) + 8).toNat = fs.length + 8 := by omega
  rw [e8, hx1, show (Value.string ByteArray.empty).cells = #[Value.string ByteArray.empty] from rfl, made_strs] at hm
  have hB := Blk.new w 9 (List.replicate (fs.length + 8) (Value.string ByteArray.empty))
  cases fs with
  | nil =>
    refine ⟨_, _, hm, fun ty => run_copy_zero _ _ _ ty 9 1 _ _ _ _ a cap Tryz.underlying22 (by rw [hi0]; simp [hx1]), ?_, (Below.refl _ _).alloc (Nat.le_refl _) _⟩
    exact hB
  | cons x r =>
    obtain ⟨b, o, rfl, hb, _⟩ := hc 0 x rfl
    generalize hfs : x :: r = fs at *
    have hl : (Strs fs).length = fs.length := by simp [Strs]
    refine ⟨_, (w.alloc (.cells (List.replicate (fs.length + 8) (Value.string ByteArray.empty)).toArray 9)).setRow w.heap.size ((List.replicate (fs.length + 8) (Value.string ByteArray.empty)).take 0 ++ Strs fs ++ (List.replicate (fs.length + 8) (Value.string ByteArray.empty)).drop (0 + (Strs fs).length)).toArray, hm, fun ty => ?_, ?_, ?_⟩
    · have h := run_copy_rows (P := Tryz.prog) _ 22 22 ty 9 1 w.heap.size 0 (fs.length + 8) (fs.length + 8) ⟨b, o, none⟩ fs.length cap _ 9 (Strs fs) Tryz.underlying22 (by rw [hi0]; simp [hx1]) hB (by rw [hl, show Nat.min fs.length (fs.length + 8) = fs.length from Nat.min_eq_left (by omega), Nat.mul_one]) (fun j v hj => ?_) (by rw [hl]; simp) (fun v hv => by
        obtain ⟨y, _, rfl⟩ := List.mem_map.1 hv; rfl)
      · rw [show Nat.min fs.length (fs.length + 8) = fs.length from Nat.min_eq_left (by omega)] at h
        exact h
      · have hj' : (fs.map Value.string)[j]? = some v := hj
        rw [List.getElem?_map] at hj'
        obtain ⟨y, hy, rfl⟩ := Option.map_eq_some_iff.1 hj'
        obtain ⟨b', o', e, hb', hcc⟩ := hc j y hy
        cases e
        have e : (⟨b, o, none⟩ : Addr).add j = ⟨b, o + j, none⟩ := by simp [Addr.add]
        rw [e]
        exact (World.cell?_of_block (a := ⟨b, o + j, none⟩) (heap_alloc_old w _ hb)).trans hcc
    · have h := setRow_heap _ w.heap.size _ ((List.replicate (fs.length + 8) (Value.string ByteArray.empty)).take 0 ++ Strs fs ++ (List.replicate (fs.length + 8) (Value.string ByteArray.empty)).drop (0 + (Strs fs).length)).toArray 9 (0, 0) hB
      have e2 : (List.replicate (fs.length + 8) (Value.string ByteArray.empty)).take 0 ++ Strs fs ++ (List.replicate (fs.length + 8) (Value.string ByteArray.empty)).drop (0 + (Strs fs).length) = roomT fs 0 := by
        rw [hl, List.take_zero, List.nil_append, Nat.zero_add, roomT, List.drop_replicate]
        simp
      rw [e2] at h
      rw [e2]; exact h
    · exact ((Below.refl _ _).alloc (Nat.le_refl _) _).trans (below_setRow _ _ _ _ (Nat.le_refl _))
theorem room_frames {w : World} {g : Nat} {fs : List ByteArray} (h : Blk w g 9 (roomT fs 8)) : FramesAt w (.slice (some ⟨g, 0, none⟩) fs.length (fs.length + 8)) fs :=
  ⟨some ⟨g, 0, none⟩, _, rfl, fun i s hs => ⟨g, 0, rfl, Blk.lt h, by rw [Nat.zero_add]; exact h.cell (roomT_front fs 8 hs)⟩⟩
theorem FramesAt.below {w w' : World} {v : Value} {fs : List ByteArray} (h : FramesAt w v fs) (hb : Below w.heap.size w w') : FramesAt w' v fs := by
  obtain ⟨a, c, rfl, hc⟩ := h
  refine ⟨a, c, rfl, fun i s hs => ?_⟩
  obtain ⟨b, o, rfl, hbl, hcc⟩ := hc i s hs
  exact ⟨b, o, rfl, Nat.lt_of_lt_of_le hbl hb.size, (hb.cell (p := ⟨b, o + i, none⟩) hbl).trans hcc⟩
theorem mergeOf_shape {fs : List ByteArray} {e : Ending} (h : MergeOf fs e) : ∃ (X : ByteArray) (n : Nat), e = .returned (.tuple #[.string X, .int .i64 n]) := by
  rcases h with ⟨_, j, n, _, _, rfl⟩ | ⟨_, rfl⟩
  · exact ⟨_, n, rfl⟩
  · exact ⟨_, 3, rfl⟩
theorem mergeOf_nil {X : ByteArray} {n : Nat} (h : MergeOf [] (.returned (.tuple #[.string X, .int .i64 n]))) : X.size ≤ 60011 := by
  have hj : IsJoin (gots []) [] := IsJoin.none
  have hb := hj.ok
  have hl : LimitsOk ([] : List Ser) := ⟨fun i x hi hx => by simp at hx, by simp⟩
  have hm : MergeOf [] (.returned (.tuple #[.string (BA (frameOf (payload []))), .int .i64 0])) := .inl ⟨fun s hs => (by cases hs), [], 0, hj, .inr (.inr ⟨rfl, hb, hl⟩), rfl⟩
  have e := h.unique hm
  simp only [Ending.returned.injEq, Value.tuple.injEq, Array.mk.injEq, List.cons.injEq, Value.string.injEq, and_true] at e
  rw [e.1, BA_size, frameOf_length]
  have := (payload_bounds (fits_of hb hl)).1
  omega
theorem sum_set : ∀ (fs : List ByteArray) (i : Nat) (x : ByteArray), ((fs.set i x).map (·.size)).sum ≤ (fs.map (·.size)).sum + x.size
  | [], i, x => by simp
  | a :: r, 0, x => by simp; omega
  | a :: r, i + 1, x => by have := sum_set r i x; rw [List.set_cons_succ, List.map_cons, List.map_cons, List.sum_cons, List.sum_cons]; omega
end Go.Proofs.YtamcclcbmenjdaaGreatDoor

/- choirlaw.Merges: the walk. -/
namespace Go.Proofs.YtamcclcbmenjdaaGreatDoor
open Go.RowKit Go.Lib

set_option maxRecDepth 100000 in
set_option maxHeartbeats 1000000 in
theorem merges_any (W : World) (v : Value) (fs : List ByteArray) (hv : FramesAt W v fs) (hsum : (fs.map (·.size)).sum ≤ 1048576) (hs : ∀ s ∈ fs, s.size ≤ 1048576) (hn : fs.length ≤ 1048576) (hT : Tabs W) :
    Calls Tryz.prog 4 #[v] W fun e w' => e = .returned (.bool true) ∧ Below W.heap.size W w' := by
  obtain ⟨w0, w1, hmk, hcp, hB1, hb1⟩ := text_start W v fs hv (by omega)
  have HFr := hide hv
  have HSum := hide hsum
  have HSs := hide hs
  have HT := hide hT
  have h3 := hT.lt
  obtain ⟨va, vc, rfl, -⟩ := hv
  have HB1 := hide hB1
  have HW1 := hide hb1
  clear hsum hs hT hB1 hb1
  obtain ⟨n, hnl⟩ : ∃ n, n = fs.length := ⟨_, rfl⟩
  rw [← hnl] at hmk hcp hn ⊢
  have HNl := hide hnl
  clear hnl
  go_enter Tryz.func4, Tryz.ntmps4
  go_wp2
  clear hmk hcp
  go_loopw [5] (fun iv wr => ∃ j : Nat, j ≤ 8 ∧ iv = .int .i64 ((n : Int) + (j : Int)) ∧ Hid (Blk wr W.heap.size 9 (roomT fs j)) ∧ Hid (Below W.heap.size W wr)) (fun iv _ => n + 8 - (intOf iv).toNat)
  case atStart => exact ⟨0, by omega, val_int (by omega), HB1.out, HW1.out⟩
  case round =>
    obtain ⟨j, hj, rfl, HB, HW⟩ := hrel
    clear HB1 HW1
    by_cases hlt : j < 8
    · have c0 : wr.cell? ⟨W.heap.size, n + j, none⟩ = some (.string ByteArray.empty) := HB.out.cell (by rw [HNl.out]; exact roomT_get fs j hlt)
      have f0 := HB.out.frozen (n + j)
      have hi1 : (n : Int) + (j : Int) < (n : Int) + 8 := by omega
      have hi0 : 0 ≤ (n : Int) + (j : Int) := by omega
      have htn : ((n : Int) + (j : Int)).toNat = n + j := by omega
      have HB2 : Hid (Blk (wr.setCell ⟨W.heap.size, n + j, none⟩ (.string bey)) W.heap.size 9 (roomT fs (j + 1))) := by
        have h := Blk.set HB.out (n + j) (.string bey)
        rw [HNl.out, roomT_set fs j hlt, ← HNl.out] at h
        exact h
      have HW2 : Hid (Below W.heap.size W (wr.setCell ⟨W.heap.size, n + j, none⟩ (.string bey))) := HW.out.setCell (p := ⟨W.heap.size, n + j, none⟩) (Nat.le_refl _) _
      clear HB HW
      go_wp2
      go_roundw
      case rel => exact ⟨j + 1, by omega, by first | (refine val_int ?_; omega) | go_num, HB2.out, HW2.out⟩
      case measure => simp [intOf]; omega
    · obtain rfl : j = 8 := by omega
      have hF1 := room_frames HB.out
      rw [← HNl.out] at hF1
      have C1 := hide (merge_any wr _ fs hF1 (fun s hs => by have := HSs.out s hs; omega) (by have := HNl.out; omega) (HT.out.below HW.out (by omega)))
      have hws := HW.out.size
      clear hF1
      go_wp2_with fail
      refine C1.out.mono ?_
      rintro e w2 ⟨hm2, hb2⟩
      obtain ⟨X1, n1, rfl⟩ := mergeOf_shape hm2
      have hs2 := hb2.size
      have HM2 := hide hm2
      have HB2 := hide (Blk.below HB.out hb2 (Blk.lt HB.out))
      have HW2 := hide (HW.out.trans (hb2.mono hws))
      have hF2 := HFr.out.below HW2.out
      rw [← HNl.out] at hF2
      have C2 := hide (refMerge_any w2 _ fs hF2 (by have := HSum.out; omega) (fun s hs => by have := HSs.out s hs; omega) (by have := HNl.out; omega) (by omega))
      clear hm2 hb2 C1 HB HW hF2
      go_wp2_with fail
      refine C2.out.mono ?_
      rintro e w3 ⟨hm3, hb3⟩
      obtain rfl := hm3.unique HM2.out
      have hs3 := hb3.size
      have HB3 := hide (Blk.below HB2.out hb3 (Blk.lt HB2.out))
      have HW3 := hide (HW2.out.trans (hb3.mono (by omega)))
      clear hm3 hb3 C2 HB2 HW2 HM2
      go_wp2
      go_loopw [10] (fun iv wr2 => ∃ k q : Nat, k ≤ n + 8 ∧ iv = .int .i64 k ∧ wr2 = w3.drewN q) (fun iv _ => n + 8 - (intOf iv).toNat)
      case atStart => exact ⟨0, 0, by omega, rfl, rfl⟩
      case round =>
        obtain ⟨k, q, hk, rfl, rfl⟩ := hrel
        by_cases hkn : k < n
        · obtain ⟨x, hx⟩ : ∃ x, fs[k]? = some x := ⟨_, List.getElem?_eq_getElem (by have := HNl.out; omega)⟩
          have c0 : w3.cell? ⟨W.heap.size, k, none⟩ = some (.string x) := HB3.out.cell (roomT_front fs 8 hx)
          obtain ⟨a', c', hvv, hcc⟩ := HFr.out
          obtain ⟨b, o, hva, hbl, hc⟩ := hcc k x hx
          cases hvv
          subst hva
          have c1 := (HW3.out.cell (p := ⟨b, o + k, none⟩) hbl).trans hc
          have i1 : (k : Int) < (n : Int) := by omega
          have i2 : ¬ (n : Int) ≤ (k : Int) := by omega
          have i3 : (k : Int) < (n : Int) + 8 := by omega
          have d1 : decide ((k : Int) < (n : Int)) = true := decide_eq_true i1
          have d2 : decide ((n : Int) ≤ (k : Int)) = false := decide_eq_false i2
          have d3 : decide (n ≤ k) = false := decide_eq_false (by omega)
          have d4 : decide (k < n) = true := decide_eq_true hkn
          have hxe : (x.toList == x.toList) = true := by simp
          clear hx hcc hc
          go_wp2
          go_quiet (fail)
          go_wp2
          go_roundw
          case rel => exact ⟨k + 1, _, by omega, by go_num, by first | rfl | exact drewN_two _ _ _⟩
          case measure => simp [intOf]; omega
        · by_cases hk8 : k < n + 8
          · obtain ⟨j, rfl⟩ : ∃ j, k = n + j := ⟨k - n, by omega⟩
            have c0 : w3.cell? ⟨W.heap.size, n + j, none⟩ = some (.string ⟨#[98, 101, 121, 111, 110, 100]⟩) := HB3.out.cell (by rw [HNl.out]; exact roomT_back fs (by omega))
            obtain ⟨kk, hkk⟩ : ∃ kk, kk = n + j := ⟨_, rfl⟩
            rw [← hkk] at c0 ⊢
            have i1 : ¬ (kk : Int) < (n : Int) := by omega
            have i2 : (n : Int) ≤ (kk : Int) := by omega
            have i3 : (kk : Int) < (n : Int) + 8 := by omega
            have d1 : decide ((kk : Int) < (n : Int)) = false := decide_eq_false i1
            have d2 : decide ((n : Int) ≤ (kk : Int)) = true := decide_eq_true i2
            have hkb : kk ≤ n + 7 := by omega
            have d3 : decide (n ≤ kk) = true := decide_eq_true (by omega)
            have d4 : decide (kk < n) = false := decide_eq_false (by omega)
            clear hkk hk hkn hk8
            go_wp2
            go_quiet (fail)
            go_wp2
            go_roundw
            case rel => exact ⟨kk + 1, _, by omega, by go_num, by first | rfl | exact drewN_two _ _ _⟩
            case measure => simp [intOf]; omega
          · obtain rfl : k = n + 8 := by omega
            have HW4 : Hid (Below W.heap.size W (w3.drewN q)) := below_drewN HW3.out q
            have HB4 : Hid (Blk (w3.drewN q) W.heap.size 9 (roomT fs 8)) := Blk.drewN HB3.out q
            have hs4 : W.heap.size ≤ (w3.drewN q).heap.size := HW4.out.size
            generalize w3.drewN q = w4 at *
            have C3 := hide (merge_any w4 (.slice none 0 0) [] ⟨none, 0, rfl, fun i s hs => by cases hs⟩ (fun s hs => by cases hs) (by simp) (HT.out.below HW4.out (by omega)))
            clear hk hkn hk8 HB3 HW3
            go_wp2_with fail
            refine C3.out.mono ?_
            rintro e w5 ⟨hm5, hb5⟩
            obtain ⟨X2, n2, rfl⟩ := mergeOf_shape hm5
            have hs5 := hb5.size
            have HM5 := hide hm5
            have hX2 := mergeOf_nil hm5
            have HB5 := hide (Blk.below HB4.out hb5 (Blk.lt HB4.out))
            have HW5 := hide (HW4.out.trans (hb5.mono hs4))
            have C4 := hide (refMerge_any w5 (.slice none 0 0) [] ⟨none, 0, rfl, fun i s hs => by cases hs⟩ (by simp) (fun s hs => by cases hs) (by simp) (by omega))
            clear hm5 hb5 C3 HB4 HW4
            go_wp2_with fail
            refine C4.out.mono ?_
            rintro e w6 ⟨hm6, hb6⟩
            obtain rfl := hm6.unique HM5.out
            have hs6 := hb6.size
            have HB6 := hide (Blk.below HB5.out hb6 (Blk.lt HB5.out))
            have HW6 := hide (HW5.out.trans (hb6.mono (by omega)))
            clear hm6 hb6 C4 HB5 HW5 HM5
            by_cases hn0 : 0 < n
            · have hi0 : 0 ≤ (n : Int) - 1 := by omega
              have hi1 : (n : Int) - 1 < (n : Int) + 8 := by omega
              have htn : ((n : Int) - 1).toNat = n - 1 := by omega
              obtain ⟨y, hy⟩ : ∃ y, fs[n - 1]? = some y := ⟨_, List.getElem?_eq_getElem (by have := HNl.out; omega)⟩
              have c0 : w6.cell? ⟨W.heap.size, n - 1, none⟩ = some (.string y) := HB6.out.cell (roomT_front fs 8 hy)
              have f0 := HB6.out.frozen (n - 1)
              obtain ⟨gs, hgs⟩ : ∃ gs, gs = fs.set (n - 1) X2 := ⟨_, rfl⟩
              have hgl : gs.length = n := by rw [hgs, List.length_set, HNl.out]
              have HB7 : Hid (Blk (w6.setCell ⟨W.heap.size, n - 1, none⟩ (.string X2)) W.heap.size 9 (roomT gs 8)) := by
                have h := Blk.set HB6.out (n - 1) (.string X2)
                rw [HNl.out, roomT_last fs X2 (by have := HNl.out; omega), ← HNl.out, ← hgs] at h
                exact h
              have HW7 : Hid (Below W.heap.size W (w6.setCell ⟨W.heap.size, n - 1, none⟩ (.string X2))) := HW6.out.setCell (p := ⟨W.heap.size, n - 1, none⟩) (Nat.le_refl _) _
              have HSum2 : Hid ((gs.map (·.size)).sum ≤ 2000000) := by
                have h1 := sum_set fs (n - 1) X2
                have h2 := HSum.out
                show _ ≤ _
                rw [hgs]; omega
              have HSs2 : Hid (∀ s ∈ gs, s.size ≤ 1048576) := fun s hs => by
                rw [hgs] at hs
                rcases List.mem_or_eq_of_mem_set hs with h | h
                · exact HSs.out s h
                · rw [h]; omega
              have hs7 : (w6.setCell ⟨W.heap.size, n - 1, none⟩ (.string X2)).heap.size = w6.heap.size := by simp
              have hF7 := room_frames HB7.out
              rw [hgl] at hF7
              have HF7 := hide hF7
              have C5 := hide (merge_any _ _ gs hF7 (fun s hs => by have := HSs2.out s hs; omega) (by omega) (HT.out.below HW7.out (by omega)))
              have HGl := hide hgl
              have hs7' : W.heap.size ≤ (w6.setCell ⟨W.heap.size, n - 1, none⟩ (.string X2)).heap.size := HW7.out.size
              clear hy hgs hgl hs7 hF7 HB6 HW6 HB7
              go_wp2_with fail
              refine C5.out.mono ?_
              rintro e w8 ⟨hm8, hb8⟩
              obtain ⟨X3, n3, rfl⟩ := mergeOf_shape hm8
              have hs8 := hb8.size
              have HM8 := hide hm8
              have HW8 := hide (HW7.out.trans (hb8.mono (by omega)))
              have C6 := hide (refMerge_any w8 _ gs (HF7.out.below hb8) HSum2.out (fun s hs => by have := HSs2.out s hs; omega) (by have := HGl.out; omega) (by omega))
              clear hm8 hb8 C5 HW7
              go_wp2_with fail
              refine C6.out.mono ?_
              rintro e w9 ⟨hm9, hb9⟩
              obtain rfl := hm9.unique HM8.out
              have HW9 := hide (HW8.out.trans (hb9.mono (by omega)))
              clear hm9 hb9 C6 HM8
              go_wp2
              go_ret
              exact ⟨rfl, HW9.out⟩
            · have hgl : fs.length = n := HNl.out.symm
              have hF7 := room_frames HB6.out
              rw [hgl] at hF7
              have HF7 := hide hF7
              obtain ⟨gs, hgs⟩ : ∃ gs, gs = fs := ⟨_, rfl⟩
              rw [← hgs] at HF7 hF7 hgl
              have HSum2 : Hid ((gs.map (·.size)).sum ≤ 2000000) := by rw [hgs]; have := HSum.out; show _ ≤ _; omega
              have HSs2 : Hid (∀ s ∈ gs, s.size ≤ 1048576) := by rw [hgs]; exact HSs.out
              have C5 := hide (merge_any _ _ gs hF7 (fun s hs => by have := HSs2.out s hs; omega) (by omega) (HT.out.below HW6.out (by omega)))
              have HGl := hide hgl
              have HW7 := HW6
              clear hgs hgl hF7 HB6 HW6
              go_wp2_with fail
              refine C5.out.mono ?_
              rintro e w8 ⟨hm8, hb8⟩
              obtain ⟨X3, n3, rfl⟩ := mergeOf_shape hm8
              have hs8 := hb8.size
              have HM8 := hide hm8
              have HW8 := hide (HW7.out.trans (hb8.mono (by omega)))
              have C6 := hide (refMerge_any w8 _ gs (HF7.out.below hb8) HSum2.out (fun s hs => by have := HSs2.out s hs; omega) (by have := HGl.out; omega) (by omega))
              clear hm8 hb8 C5 HW7
              go_wp2_with fail
              refine C6.out.mono ?_
              rintro e w9 ⟨hm9, hb9⟩
              obtain rfl := hm9.unique HM8.out
              have HW9 := hide (HW8.out.trans (hb9.mono (by omega)))
              clear hm9 hb9 C6 HM8
              go_wp2
              go_ret
              exact ⟨rfl, HW9.out⟩
end Go.Proofs.YtamcclcbmenjdaaGreatDoor

/- A list of texts that came in, of a bulk. -/
namespace Go.Proofs.YtamcclcbmenjdaaGreatDoor
open Go.RowKit Go.Lib Go.ChangeShapes Go.WideShapes

theorem cellsT : Tryz.prog.cellsOf 9 = 1 := by kernel_rfl
theorem tbulk_sum {H : Type} {f : Nat → Nat} {D : Nat → DataW H} : ∀ (L : List Nat), (∀ i ∈ L, f i ≤ Rows.uptoBulk (D i)) → (L.map f).sum ≤ Rows.uptoBulkAll (L.map D)
  | [], _ => by simp
  | i :: L, h => by
    have h1 := h i (List.mem_cons_self ..)
    have h2 := tbulk_sum L fun k hk => h k (List.mem_cons_of_mem _ hk)
    rw [List.map_cons, List.map_cons, List.sum_cons, Rows.uptoBulkAll]; omega
theorem texts_bulk {H : Type} {enc : TypeId × Value → H} {W : World} {a0 : Option Addr} {len0 cap0 : Nat} {d : DataW H} {ps : List MemPlace} (h : DataW.Trod enc Tryz.prog W 0 (fun _ => true) true 22 (.slice a0 len0 cap0) d ps) :
    ∃ fs : List ByteArray, FramesAt W (.slice a0 len0 cap0) fs ∧ (fs.map fun s => s.size + 1).sum ≤ Rows.uptoBulk d := by
  obtain ⟨fuel, hf⟩ := h
  have hf' : DataW.trod enc Tryz.prog W 0 (fun _ => true) true fuel 22 [.slice a0 len0 cap0] = some (d, ps) := hf
  rcases Go.Deep.open_slice Tryz.underlying22 hf' with ⟨hcs, hx⟩ | ⟨a, len, cap, m, n, D, Pl, hcs, hb, hl, hm, hmm, hx, hel⟩
  · simp only [List.cons.injEq, and_true] at hcs
    rw [hcs]
    exact ⟨[], ⟨none, 0, rfl, fun i s hs => by cases hs⟩, by simp⟩
  · simp only [List.cons.injEq, and_true] at hcs
    rw [hcs]
    simp only [if_true] at hmm
    subst hmm
    have hd : d = .slice ((List.range len).map D) ((List.range (m - len)).map fun j => D (len + j)) := congrArg Prod.fst hx
    rw [hd]
    rw [cellsT] at hel
    have hone : ∀ i, i < len → ∃ z : ByteArray, W.cell? (a.add i) = some (.string z) ∧ z.size + 1 ≤ Rows.uptoBulk (D i) := fun i hi => by
      obtain ⟨cs', h1, h2⟩ := hel i (by omega)
      obtain ⟨_, hlen, hcell⟩ := World.cells?_some h1
      match cs', hlen, hcell, h2 with
      | [c0], _, hcell, h2 =>
        have q0 := hcell 0 (by omega)
        have z0 : (a.add (i * 1)).add 0 = a.add i := by unfold Addr.add; simp
        rw [z0] at q0
        obtain ⟨s0, e0, e1, _⟩ := DataW.trod_string Tryz.underlying9 h2
        simp only [List.cons.injEq, and_true] at e0
        subst e0
        refine ⟨s0, q0, ?_⟩
        have e2 : D i = .lit (.string s0.data.toList) := congrArg Prod.fst e1
        rw [e2, Rows.uptoBulk]
        simp
    obtain ⟨F, hF⟩ := Go.Deep.choose_lt hone
    have hlen : ((List.range len).map F).length = len := by simp
    refine ⟨(List.range len).map F, ⟨some a, m, by rw [hlen], fun i s hs => ?_⟩, ?_⟩
    · have hi : i < len := by have := (List.getElem?_eq_some_iff.1 hs).1; simpa using this
      have e : s = F i := by
        rw [List.getElem?_map, List.getElem?_range hi] at hs
        exact (Option.some.inj hs).symm
      subst e
      obtain ⟨h1, _⟩ := hF i hi
      obtain ⟨h00, _⟩ := hF 0 (by omega)
      obtain ⟨b, o, spot⟩ := a
      have hs0 : spot = none := by simpa [Addr.add] using World.cell?_spot h00
      subst hs0
      have e3 : (⟨b, o, none⟩ : Addr).add i = ⟨b, o + i, none⟩ := by simp [Addr.add]
      rw [e3] at h1
      exact ⟨b, o, rfl, World.block_lt_of_cell? W _ h1, h1⟩
    · have h1 := tbulk_sum (f := fun i => (F i).size + 1) (D := D) (List.range len) fun i hi => (hF i (List.mem_range.1 hi)).2
      rw [List.map_map, Rows.uptoBulk]
      have e : (List.range len).map ((fun s : ByteArray => s.size + 1) ∘ F) = (List.range len).map fun i => (F i).size + 1 := rfl
      rw [e]; omega
theorem texts_sizes {fs : List ByteArray} {n : Nat} (h : (fs.map fun s => s.size + 1).sum ≤ n) : fs.length ≤ n ∧ (fs.map (·.size)).sum ≤ n ∧ ∀ s ∈ fs, s.size ≤ n := by
  induction fs generalizing n with
  | nil => exact ⟨by simp, by simp, fun s h => by cases h⟩
  | cons s r ih =>
    rw [List.map_cons, List.sum_cons] at h
    obtain ⟨h1, h2, h3⟩ := ih (n := n - (s.size + 1)) (by omega)
    refine ⟨by rw [List.length_cons]; omega, by rw [List.map_cons, List.sum_cons]; omega, fun t ht => ?_⟩
    rcases List.mem_cons.1 ht with rfl | ht
    · omega
    · have := h3 t ht; omega
theorem Tryz.txtReads : Tryz.prog.readableRec 22 = true := by kernel_rfl
theorem Tryz.txtType : 22 < Tryz.prog.types.size := of_decide_eq_true (by kernel_rfl)
end Go.Proofs.YtamcclcbmenjdaaGreatDoor

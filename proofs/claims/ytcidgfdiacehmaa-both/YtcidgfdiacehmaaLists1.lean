/- choirlaw's labels and samples: lists with room behind them. -/
import Derived.Test.YtcidgfdiacehmaaBlk
import Derived.Lib.SliceRun
namespace Go.Proofs.Ytcidgfdiacehmaa
open Go.RowKit Go.Lib

def labX : Value × Value := (.string bey, .string ByteArray.empty)
def labZ : Value × Value := (.string ByteArray.empty, .string ByteArray.empty)
def samX : Value × Value := (.int .i64 0, .int .u64 77)
def samZ : Value × Value := (.int .i64 0, .int .u64 0)
/-- A list with eight places of the caller's behind it; nil stays nil. -/
def Room (w : World) (base T : Nat) (x z : Value × Value) (v v' : Value) (ps : List (Value × Value)) : Prop :=
  (isNil v = true ∧ v' = .slice none 0 0 ∧ ps = []) ∨ (isNil v = false ∧ ∃ g, base ≤ g ∧ v' = .slice (some ⟨g, 0, none⟩) ps.length (ps.length + 8) ∧ Blk w g T (serCells (roomP ps x z 8)))
def RoomL (w : World) (base : Nat) (v v' : Value) (l : List Lab) : Prop := Room w base 60 labX labZ v v' (labP l)
def RoomS (w : World) (base : Nat) (v v' : Value) (l : List (Int × Nat)) : Prop := Room w base 33 samX samZ v v' (samP l)
theorem labP_length (l : List Lab) : (labP l).length = l.length := by simp [labP]
theorem samP_length (l : List (Int × Nat)) : (samP l).length = l.length := by simp [samP]

theorem addr_block (a : Addr) (j : Nat) : (a.add j).block = a.block := by unfold Addr.add; split <;> rfl
/-- What make and copy leave. -/
theorem room_start (w : World) (T e bytes : Nat) (x z : Value × Value) (i0 : TypeInfo) (hu : Try.prog.underlying T = some (.slice e)) (hi : Try.prog.info? e = some i0) (hz0 : i0.zero = some (.agg #[z.1, z.2])) (hzc : (Value.agg #[z.1, z.2]).cells = #[z.1, z.2]) (hz1 : i0.size = 2) (hz2 : i0.bytes = bytes)
    (a : Addr) (n cap : Nat) (ps : List (Value × Value)) (hn : ps.length = n) (hb : bytes * (n + 8) ≤ 281474976710656) (h63 : n ≤ 100000000000000) (hsrc : ∀ j v, (serCells ps)[j]? = some v → a.block < w.heap.size ∧ w.cell? (a.add j) = some v) (h1 : ∀ v ∈ serCells ps, v.oneCell' = true) :
    ∃ w0 w1, (Instr.makeSlice T (.int .i64 ((n : Int) + 8)) (.int .i64 ((n : Int) + 8))).run Try.prog w = .ok (.slice (some ⟨w.heap.size, 0, none⟩) (n + 8) (n + 8)) w0 ∧
      (∀ ty, (Builtin.copy_ #[T, T] ty #[.slice (some ⟨w.heap.size, 0, none⟩) (n + 8) (n + 8), .slice (some a) n cap]).run Try.prog w0 = .ok (goInt n) w1) ∧
      Blk w1 w.heap.size e (serCells (roomP ps x z 0)) ∧ Below w.heap.size w w1 := by
  have hbI : (bytes : Int) * ((n : Int) + 8) ≤ 281474976710656 := by
    have h := Int.ofNat_le.2 hb
    simpa only [Int.natCast_mul, Int.natCast_add, Int.cast_ofNat_Int] using h
  have hm := run_make (P := Try.prog) w T e i0 (.agg #[z.1, z.2]) hu hi hz0 .i64 .i64 ((n : Int) + 8) ((n : Int) + 8) (by omega) (by omega) (by rw [hz2]; exact hbI) (by omega)
  have e8 : ((n : Int) + 8).toNat = n + 8 := by omega
  rw [e8, hzc, hz1, ← serCells_rep_arr z (n + 8)] at hm
  have hB := Blk.new w e (serCells (List.replicate (n + 8) z))
  have hl : (serCells ps).length = n * 2 := by rw [serCells_length]; omega
  refine ⟨_, (w.alloc (.cells (serCells (List.replicate (n + 8) z)).toArray e)).setRow w.heap.size ((serCells (List.replicate (n + 8) z)).take 0 ++ serCells ps ++ (serCells (List.replicate (n + 8) z)).drop (0 + (serCells ps).length)).toArray, hm, fun ty => ?_, ?_, ?_⟩
  · have h := run_copy_rows (P := Try.prog) _ T T ty e 2 w.heap.size 0 (n + 8) (n + 8) a n cap _ e (serCells ps) hu (by rw [hi]; simp [hz1]) hB (by rw [hl, show Nat.min n (n + 8) = n from Nat.min_eq_left (by omega)]) (fun j v hj => ?_) (by rw [hl]; simp [serCells_length]; omega) h1
    · rw [show Nat.min n (n + 8) = n from Nat.min_eq_left (by omega)] at h
      exact h
    · obtain ⟨ha, hc⟩ := hsrc j v hj
      exact (World.cell?_of_block (a := a.add j) (heap_alloc_old w _ (by rw [addr_block]; exact ha))).trans hc
  · have h := setRow_heap _ w.heap.size _ ((serCells (List.replicate (n + 8) z)).take 0 ++ serCells ps ++ (serCells (List.replicate (n + 8) z)).drop (0 + (serCells ps).length)).toArray e (0, 0) hB
    have e2 : (serCells (List.replicate (n + 8) z)).take 0 ++ serCells ps ++ (serCells (List.replicate (n + 8) z)).drop (0 + (serCells ps).length) = serCells (roomP ps x z 0) := by
      rw [hl, List.take_zero, List.nil_append, Nat.zero_add, roomP, serCells_app, ← List.replicate_append_replicate, serCells_app, List.drop_left' (by rw [serCells_length]; simp; omega)]
      simp
    rw [e2] at h
    rw [e2]; exact h
  · exact ((Below.refl _ _).alloc (Nat.le_refl _) _).trans (below_setRow _ _ _ _ (Nat.le_refl _))

theorem lab_src {w : World} {B : Nat} {a : Addr} {n cap : Nat} {l : List Lab} (h : LabelsAt w B (.slice (some a) n cap) l) (hB : B ≤ w.heap.size) : ∀ j v, (serCells (labP l))[j]? = some v → a.block < w.heap.size ∧ w.cell? (a.add j) = some v := fun j v hj => by
  obtain ⟨a', c', hv, _, h2⟩ := h
  cases hv
  rcases h2 with h2 | ⟨b, o, ha, hb, hc⟩
  · subst h2; simp [labP, serCells] at hj
  · cases ha
    refine ⟨by show b < _; omega, ?_⟩
    have hl : j < 2 * l.length := by
      have := (List.getElem?_eq_some_iff.1 hj).1
      rw [serCells_length, labP_length] at this; exact this
    obtain ⟨x, hx⟩ : ∃ x, l[j / 2]? = some x := ⟨_, List.getElem?_eq_getElem (by omega)⟩
    have hp : (labP l)[j / 2]? = some (.string x.1, .string x.2) := by simp [labP, hx]
    have hg := serCells_get hp
    rw [addr_add]
    rcases Nat.mod_two_eq_zero_or_one j with e | e
    · have ej : j = j / 2 * 2 := by omega
      rw [ej] at hj ⊢
      rw [hg.1] at hj; cases hj
      exact (hc _ x hx).1
    · have ej : j = j / 2 * 2 + 1 := by omega
      rw [ej] at hj ⊢
      rw [hg.2] at hj; cases hj
      rw [← Nat.add_assoc]
      exact (hc _ x hx).2
theorem sam_src {w : World} {B : Nat} {a : Addr} {n cap : Nat} {l : List (Int × Nat)} (h : SamplesAt w B (.slice (some a) n cap) l) (hB : B ≤ w.heap.size) : ∀ j v, (serCells (samP l))[j]? = some v → a.block < w.heap.size ∧ w.cell? (a.add j) = some v := fun j v hj => by
  obtain ⟨a', c', hv, _, _, h2⟩ := h
  cases hv
  rcases h2 with h2 | ⟨b, o, ha, hb, hc⟩
  · subst h2; simp [samP, serCells] at hj
  · cases ha
    refine ⟨by show b < _; omega, ?_⟩
    have hl : j < 2 * l.length := by
      have := (List.getElem?_eq_some_iff.1 hj).1
      rw [serCells_length, samP_length] at this; exact this
    obtain ⟨x, hx⟩ : ∃ x, l[j / 2]? = some x := ⟨_, List.getElem?_eq_getElem (by omega)⟩
    have hp : (samP l)[j / 2]? = some (.int .i64 x.1, .int .u64 x.2) := by simp [samP, hx]
    have hg := serCells_get hp
    rw [addr_add]
    rcases Nat.mod_two_eq_zero_or_one j with e | e
    · have ej : j = j / 2 * 2 := by omega
      rw [ej] at hj ⊢
      rw [hg.1] at hj; cases hj
      exact (hc _ x hx).1
    · have ej : j = j / 2 * 2 + 1 := by omega
      rw [ej] at hj ⊢
      rw [hg.2] at hj; cases hj
      rw [← Nat.add_assoc]
      exact (hc _ x hx).2
theorem lab_one (l : List Lab) : ∀ v ∈ serCells (labP l), v.oneCell' = true := fun v hv => by
  rw [labP_cells] at hv
  simp only [labCells, List.mem_flatMap] at hv
  obtain ⟨x, _, hx⟩ := hv
  simp at hx
  rcases hx with rfl | rfl <;> rfl
theorem sam_one (l : List (Int × Nat)) : ∀ v ∈ serCells (samP l), v.oneCell' = true := fun v hv => by
  rw [samP_cells] at hv
  simp only [samCells, List.mem_flatMap] at hv
  obtain ⟨x, _, hx⟩ := hv
  simp at hx
  rcases hx with rfl | rfl <;> rfl

set_option maxRecDepth 100000 in
set_option maxHeartbeats 400000 in
theorem llabels_any (B : Nat) (v : Value) (l : List Lab) (w : World) (hL : LabelsAt w B v l) (hB : B ≤ w.heap.size) (hl : l.length ≤ 4400000000000) :
    Calls Try.prog 22 #[v] w fun e w' => ∃ v', e = .returned v' ∧ RoomL w' w.heap.size v v' l ∧ Below w.heap.size w w' := by
  obtain ⟨i0, hi, hz0, hz1, hz2⟩ := info_parts Try.infoLab
  obtain ⟨a, cap, rfl, hcap, h2⟩ := id hL
  have hnil : ∀ (W : World) a n c, (binOp .eql 35 (.slice a n c) (.slice none 0 0)).run Try.prog W = .ok (.bool a.isNone) W := fun W a n c => Lib.run_eql_slice_nil W 35 60 a n c 0 0 Try.underlying35
  cases a with
  | none =>
    have hl0 : l = [] := by
      rcases h2 with h | ⟨b, o, h, _⟩
      · exact h
      · cases h
    subst hl0
    clear hL h2
    go_enter Try.func22, Try.ntmps22
    go_wp2
    go_ret
    exact ⟨_, rfl, .inl ⟨rfl, rfl, rfl⟩, Below.refl _ _⟩
  | some a =>
    obtain ⟨w0, w1, hmk, hcp, hB1, hbl⟩ := room_start w 35 60 32 labX labZ i0 Try.underlying35 hi hz0 rfl hz1 hz2 a l.length cap (labP l) (labP_length l) (by omega) (by omega) (lab_src hL hB) (lab_one l)
    have HB1 := hide hB1
    have HBl := hide hbl
    have hlen := labP_length l
    clear hL h2 hi hz0 hz1 hz2 hB1 hbl
    go_enter Try.func22, Try.ntmps22
    go_wp2_with (at_builtin; refine Lib.wpList_copy_run _ rfl _ _ 35 35 rfl _ _ rfl rfl (hcp _) ?_)
    clear hmk hcp
    go_loopw [5] (fun i wr => ∃ j : Nat, j ≤ 8 ∧ i = .int .i64 ((l.length + j : Nat) : Int) ∧ Hid (Blk wr w.heap.size 60 (serCells (roomP (labP l) labX labZ j))) ∧ Below w.heap.size w wr) (fun i _ => l.length + 8 - (intOf i).toNat)
    case atStart => exact ⟨0, by omega, rfl, HB1.out, HBl.out⟩
    case round =>
      obtain ⟨j, hj, rfl, HK, hbl⟩ := hrel
      have HBl2 := hide hbl
      clear hbl HB1 HBl
      by_cases hlt : j < 8
      · have hg : (roomP (labP l) labX labZ j)[l.length + j]? = some labZ := by have := roomP_get (labP l) labX labZ j hlt; rw [hlen] at this; exact this
        have c1 := HK.out.cell (serCells_get hg).1
        have f1 := HK.out.frozen ((l.length + j) * 2)
        have hn := (serCells_set HK.out (l.length + j) hg (.string bey)).1
        have hs := roomP_set (labP l) labX labZ j hlt
        rw [hlen] at hs
        rw [show ((Value.string bey, labZ.2) : Value × Value) = labX from rfl, hs] at hn
        have HN := hide hn
        have h8 : ((l.length + j : Nat) : Int) < (l.length : Int) + 8 := by omega
        clear hg hn hs HK
        simp only [labZ] at c1
        go_wp2
        go_roundw
        case rel => exact ⟨j + 1, by omega, by go_num, HN.out, HBl2.out.setCell (Nat.le_refl _) _⟩
        case measure => simp [intOf]; omega
      · obtain rfl : j = 8 := by omega
        go_wp2
        go_ret
        exact ⟨_, rfl, .inr ⟨rfl, w.heap.size, Nat.le_refl _, by rw [hlen]; rfl, HK.out⟩, HBl2.out⟩
set_option maxRecDepth 100000 in
set_option maxHeartbeats 400000 in
theorem lsamples_any (B : Nat) (v : Value) (l : List (Int × Nat)) (w : World) (hL : SamplesAt w B v l) (hB : B ≤ w.heap.size) (hl : l.length ≤ 8800000000000) :
    Calls Try.prog 23 #[v] w fun e w' => ∃ v', e = .returned v' ∧ RoomS w' w.heap.size v v' l ∧ Below w.heap.size w w' := by
  obtain ⟨i0, hi, hz0, hz1, hz2⟩ := info_parts Try.infoSam
  obtain ⟨a, cap, rfl, hcap, _, h2⟩ := id hL
  have hnil : ∀ (W : World) a n c, (binOp .eql 34 (.slice a n c) (.slice none 0 0)).run Try.prog W = .ok (.bool a.isNone) W := fun W a n c => Lib.run_eql_slice_nil W 34 33 a n c 0 0 Try.underlying34
  cases a with
  | none =>
    have hl0 : l = [] := by
      rcases h2 with h | ⟨b, o, h, _⟩
      · exact h
      · cases h
    subst hl0
    clear hL h2
    go_enter Try.func23, Try.ntmps23
    go_wp2
    go_ret
    exact ⟨_, rfl, .inl ⟨rfl, rfl, rfl⟩, Below.refl _ _⟩
  | some a =>
    obtain ⟨w0, w1, hmk, hcp, hB1, hbl⟩ := room_start w 34 33 16 samX samZ i0 Try.underlying34 hi hz0 rfl hz1 hz2 a l.length cap (samP l) (samP_length l) (by omega) (by omega) (sam_src hL hB) (sam_one l)
    have HB1 := hide hB1
    have HBl := hide hbl
    have hlen := samP_length l
    clear hL h2 hi hz0 hz1 hz2 hB1 hbl
    go_enter Try.func23, Try.ntmps23
    go_wp2_with (at_builtin; refine Lib.wpList_copy_run _ rfl _ _ 34 34 rfl _ _ rfl rfl (hcp _) ?_)
    clear hmk hcp
    go_loopw [5] (fun i wr => ∃ j : Nat, j ≤ 8 ∧ i = .int .i64 ((l.length + j : Nat) : Int) ∧ Hid (Blk wr w.heap.size 33 (serCells (roomP (samP l) samX samZ j))) ∧ Below w.heap.size w wr) (fun i _ => l.length + 8 - (intOf i).toNat)
    case atStart => exact ⟨0, by omega, rfl, HB1.out, HBl.out⟩
    case round =>
      obtain ⟨j, hj, rfl, HK, hbl⟩ := hrel
      have HBl2 := hide hbl
      clear hbl HB1 HBl
      by_cases hlt : j < 8
      · have hg : (roomP (samP l) samX samZ j)[l.length + j]? = some samZ := by have := roomP_get (samP l) samX samZ j hlt; rw [hlen] at this; exact this
        have c1 := HK.out.cell (serCells_get hg).2
        have f1 := HK.out.frozen ((l.length + j) * 2 + 1)
        have hn := (serCells_set HK.out (l.length + j) hg (.int .u64 77)).2
        have hs := roomP_set (samP l) samX samZ j hlt
        rw [hlen] at hs
        rw [show ((samZ.1, Value.int .u64 77) : Value × Value) = samX from rfl, hs] at hn
        have HN := hide hn
        have h8 : ((l.length + j : Nat) : Int) < (l.length : Int) + 8 := by omega
        clear hg hn hs HK
        simp only [samZ] at c1
        go_wp2
        go_roundw
        case rel => exact ⟨j + 1, by omega, by go_num, HN.out, HBl2.out.setCell (Nat.le_refl _) _⟩
        case measure => simp [intOf]; omega
      · obtain rfl : j = 8 := by omega
        go_wp2
        go_ret
        exact ⟨_, rfl, .inr ⟨rfl, w.heap.size, Nat.le_refl _, by rw [hlen]; rfl, HK.out⟩, HBl2.out⟩
end Go.Proofs.Ytcidgfdiacehmaa

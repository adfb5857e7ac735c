/- 'choirkeep.Lattice', for any three lists of raw samples: joins do not hang on order, grouping and how often; with bytes and without it is the same. The first form's statement and its card: no condition beside the row's own. -/
import Derived.Test.YtamcclcbmenjdaaGreatDoorLatticeG4
import Derived.Test.YtamcclcbmenjdaaGreatDoorLatticeG3
import Derived.Test.YtamcclcbmenjdaaGreatDoorLatticeG13
/- How long what is joined can be. -/
namespace Go.Proofs.YtamcclcbmenjdaaGreatDoor
open Go.RowKit Go.Lib

theorem nodup_len {α : Type} [DecidableEq α] : ∀ (l m : List α), l.Pairwise (fun x y => x ≠ y) → (∀ x ∈ l, x ∈ m) → l.length ≤ m.length
  | [], m, _, _ => Nat.zero_le _
  | x :: l, m, h, hm => by
    obtain ⟨h1, h2⟩ := List.pairwise_cons.1 h
    have hx := hm x (List.mem_cons_self ..)
    have ih := nodup_len l (m.erase x) h2 fun y hy => (List.mem_erase_of_ne (h1 y hy).symm).2 (hm y (List.mem_cons_of_mem _ hy))
    have := List.length_erase_of_mem hx
    have := List.length_pos_of_mem hx
    simp only [List.length_cons]
    omega
theorem Tops.len {d j : List (Int × Nat)} (h : Tops d j) : j.length ≤ d.length :=
  nodup_len j d (h.rise.imp fun {x y} hlt e => by subst e; exact absurd hlt (Int.lt_irrefl _)) fun x hx => ((h.mem x.1 x.2).1 hx).1
theorem STops.len {d j : List Ser} (h : STops d j) : j.length ≤ d.length := by
  haveI : DecidableEq (List Lab) := fun a b => Classical.propDecidable (a = b)
  have := nodup_len (j.map (·.1)) (d.map (·.1)) (List.pairwise_map.2 (h.rise.imp fun {x y} hlt e => by
    have h1 : cmpLabs x.1 y.1 = -1 := hlt
    rw [e, cmpLabs_self] at h1; omega)) fun l hl => by
      obtain ⟨s, hs, rfl⟩ := List.mem_map.1 hl
      obtain ⟨x, hx, e⟩ := h.back s hs
      exact List.mem_map.2 ⟨x, hx, e⟩
  simpa using this
theorem filt_len (p : Ser → Bool) : ∀ d : List Ser, ((d.filter p).map (·.2)).flatten.length ≤ (d.map (·.2)).flatten.length
  | [] => Nat.le_refl _
  | x :: d => by
    have ih := filt_len p d
    rw [List.filter_cons]
    split
    · simp only [List.map_cons, List.flatten_cons, List.length_append]; omega
    · simp only [List.map_cons, List.flatten_cons, List.length_append]; omega
theorem STops.sams {d j : List Ser} (h : STops d j) {s : Ser} (hs : s ∈ j) : s.2.length ≤ (d.map (·.2)).flatten.length := by
  refine Nat.le_trans (h.tops s hs).len ?_
  exact filt_len _ d
end Go.Proofs.YtamcclcbmenjdaaGreatDoor

/- Check of any number of lists. -/
namespace Go.Proofs.YtamcclcbmenjdaaGreatDoor
open Go.RowKit Go.Lib

/-- The error of a list of series: 1 no batch, 2 beyond the limits, 0 none. -/
def Code (bs : List Ser) (n : Nat) : Prop := (n = 1 ∧ ¬ BatchOk bs) ∨ (n = 2 ∧ BatchOk bs ∧ ¬ LimitsOk bs) ∨ (n = 0 ∧ BatchOk bs ∧ LimitsOk bs)
/-- The error of several lists of series. -/
def CodeAll (bss : List (List Ser)) (n : Nat) : Prop := (n = 1 ∧ ¬ ∀ bs ∈ bss, BatchOk bs) ∨ (n = 2 ∧ (∀ bs ∈ bss, BatchOk bs) ∧ ¬ ∀ bs ∈ bss, LimitsOk bs) ∨ (n = 0 ∧ (∀ bs ∈ bss, BatchOk bs) ∧ ∀ bs ∈ bss, LimitsOk bs)
theorem mem_get {bss : List (List Ser)} {P : List Ser → Prop} (h : ∀ i bs, i < bss.length → bss[i]? = some bs → P bs) : ∀ bs ∈ bss, P bs := fun bs hb => by
  obtain ⟨i, hi, e⟩ := List.mem_iff_getElem.1 hb
  exact h i bs hi (by rw [List.getElem?_eq_getElem hi, e])
set_option maxRecDepth 100000 in
set_option maxHeartbeats 400000 in
theorem checks_any (B bb bo cap : Nat) (bss : List (List Ser)) (w : World) (hc : ∀ i bs, bss[i]? = some bs → ∃ v, w.cell? ⟨bb, bo + i, none⟩ = some v ∧ BatchAt w B v bs) (hbb : bb < w.heap.size) (hB : B ≤ w.heap.size)
    (hsm : ∀ bs ∈ bss, Small bs) (hlen : bss.length ≤ 1000) :
    Calls Tryz.prog 72 #[.slice (some ⟨bb, bo, none⟩) bss.length cap] w fun e w' => (∃ n : Nat, e = .returned (.int .i64 n) ∧ CodeAll bss n) ∧ Below w.heap.size w w' := by
  have HC := hide hc
  have HSm := hide hsm
  clear hc hsm
  go_enter Tryz.func72, Tryz.ntmps72
  go_wp2
  go_loopw [4, 9] (fun _ i wr => ∃ k : Nat, k ≤ bss.length ∧ i = .int .i64 k ∧ Below w.heap.size w wr ∧ Hid (∀ i bs, i < k → bss[i]? = some bs → BatchOk bs)) (fun _ i _ => bss.length - (intOf i).toNat)
  case atStart => exact ⟨0, Nat.zero_le _, rfl, Below.refl _ _, fun i x h => by omega⟩
  case round =>
    obtain ⟨k, hk, rfl, hbl, HR⟩ := hrel
    have hsz := hbl.size
    have HBl := hide hbl
    by_cases hlt : k < bss.length
    · obtain ⟨bs, hy⟩ : ∃ y, bss[k]? = some y := ⟨_, List.getElem?_eq_getElem hlt⟩
      obtain ⟨v, c1, hv⟩ := HC.out k bs hy
      have m1 := (hbl.cell (p := ⟨bb, bo + k, none⟩) hbb).trans c1
      have C1 := hide (isBatch_any B v bs wr (hv.below hbl hB) (by omega) (HSm.out bs (List.mem_of_getElem? hy)))
      obtain ⟨a, c, rfl, _⟩ := id hv
      have HY := hide hy
      clear hy hv c1 hbl
      go_wp2_with fail
      refine C1.out.mono ?_
      rintro e w1 ⟨⟨r1, rfl, hr1⟩, hb1⟩
      have HB1 := hide (HBl.out.trans (hb1.mono hsz))
      cases r1 with
      | false =>
        have hno : CodeAll bss 1 := .inl ⟨rfl, fun h => by have := hr1.2 (h bs (List.mem_of_getElem? HY.out)); cases this⟩
        have HNo := hide hno
        clear hno hr1 hb1 m1
        go_wp2
        go_ret
        exact ⟨⟨1, rfl, HNo.out⟩, HB1.out⟩
      | true =>
        have HR1 := hide (hr1.1 rfl)
        clear hr1 hb1 m1 C1
        go_wp2
        go_roundw
        case rel => exact ⟨k + 1, by omega, by go_num, HB1.out, fun i x hi hx => by
            by_cases he : i = k
            · subst he; have h := HY.out; rw [hx] at h; cases h; exact HR1.out
            · exact HR.out i x (by omega) hx⟩
        case measure => simp [intOf]; omega
    · have HA : Hid (∀ bs ∈ bss, BatchOk bs) := mem_get fun i bs hi hx => HR.out i bs (by omega) hx
      clear hbl HR
      go_wp2
      go_loopw [6, 19] (fun _ i wr => ∃ k : Nat, k ≤ bss.length ∧ i = .int .i64 k ∧ Below w.heap.size w wr ∧ Hid (∀ i bs, i < k → bss[i]? = some bs → LimitsOk bs)) (fun _ i _ => bss.length - (intOf i).toNat)
      case atStart => exact ⟨0, Nat.zero_le _, rfl, HBl.out, fun i x h => by omega⟩
      case round =>
        obtain ⟨k, hk, rfl, hbl, HR⟩ := hrel
        have hsz := hbl.size
        have HBl := hide hbl
        by_cases hlt : k < bss.length
        · obtain ⟨bs, hy⟩ : ∃ y, bss[k]? = some y := ⟨_, List.getElem?_eq_getElem hlt⟩
          obtain ⟨v, c1, hv⟩ := HC.out k bs hy
          have m1 := (hbl.cell (p := ⟨bb, bo + k, none⟩) hbb).trans c1
          have C1 := hide (withinLimits_any B v bs wr (hv.below hbl hB) (by omega) (HSm.out bs (List.mem_of_getElem? hy)).series)
          obtain ⟨a, c, rfl, _⟩ := id hv
          have HY := hide hy
          clear hy hv c1 hbl
          go_wp2_with fail
          refine C1.out.mono ?_
          rintro e w1 ⟨⟨r1, rfl, hr1⟩, hb1⟩
          have HB1 := hide (HBl.out.trans (hb1.mono hsz))
          cases r1 with
          | false =>
            have hno : CodeAll bss 2 := .inr (.inl ⟨rfl, HA.out, fun h => by have := hr1.2 (h bs (List.mem_of_getElem? HY.out)); cases this⟩)
            have HNo := hide hno
            clear hno hr1 hb1 m1
            go_wp2
            go_ret
            exact ⟨⟨2, rfl, HNo.out⟩, HB1.out⟩
          | true =>
            have HR1 := hide (hr1.1 rfl)
            clear hr1 hb1 m1 C1
            go_wp2
            go_roundw
            case rel => exact ⟨k + 1, by omega, by go_num, HB1.out, fun i x hi hx => by
                by_cases he : i = k
                · subst he; have h := HY.out; rw [hx] at h; cases h; exact HR1.out
                · exact HR.out i x (by omega) hx⟩
            case measure => simp [intOf]; omega
        · have hno : CodeAll bss 0 := .inr (.inr ⟨rfl, HA.out, mem_get fun i bs hi hx => HR.out i bs (by omega) hx⟩)
          have HNo := hide hno
          clear hno hbl HR
          go_wp2
          go_ret
          exact ⟨⟨0, rfl, HNo.out⟩, HBl.out⟩
/-- One list of series, handed over in the block bb. -/
theorem check_any (B bb : Nat) (v : Value) (bs : List Ser) (w : World) (hc : w.cell? ⟨bb, 0, none⟩ = some v) (hS : BatchAt w B v bs) (hbb : bb < w.heap.size) (hB : B ≤ w.heap.size) (hsm : Small bs) :
    Calls Tryz.prog 72 #[.slice (some ⟨bb, 0, none⟩) 1 1] w fun e w' => (∃ n : Nat, e = .returned (.int .i64 n) ∧ Code bs n) ∧ Below w.heap.size w w' := by
  refine (checks_any B bb 0 1 [bs] w (fun i x hx => ?_) hbb hB (fun x hx => by rw [List.mem_singleton.1 hx]; exact hsm) (by simp)).mono ?_
  · cases i with
    | zero => cases hx; exact ⟨v, hc, hS⟩
    | succ i => simp at hx
  · rintro e w' ⟨⟨n, rfl, hn⟩, hb⟩
    refine ⟨⟨n, rfl, ?_⟩, hb⟩
    simpa [CodeAll, Code] using hn
end Go.Proofs.YtamcclcbmenjdaaGreatDoor

/- join.All. -/
namespace Go.Proofs.YtamcclcbmenjdaaGreatDoor
open Go.RowKit Go.Lib

def Ranged (s : Ser) : Prop := ∀ x ∈ s.2, -9223372036854775808 ≤ x.1 ∧ x.1 ≤ 9223372036854775807 ∧ x.2 ≤ 18446744073709551615
theorem STops.ranged {d j : List Ser} (h : STops d j) (hd : ∀ s ∈ d, Ranged s) : ∀ s ∈ j, Ranged s := fun s hs x hx => by
  have h1 := (((h.tops s hs).mem x.1 x.2).1 hx).1
  obtain ⟨l, hl, hxl⟩ := List.mem_flatten.1 h1
  obtain ⟨y, hy, rfl⟩ := List.mem_map.1 hl
  exact hd y (List.mem_filter.1 hy).1 x hxl
theorem STops.small {d j : List Ser} (h : STops d j) (hd : ∀ s ∈ d, SerFit s) (h1 : d.length ≤ 1000000000) (h2 : samN d ≤ 1000000000000) : Small j := by
  refine ⟨by have := h.len; omega, fun s hs => ?_, fun s hs => ?_⟩
  · obtain ⟨x, hx, e⟩ := h.back s hs
    have := (hd x hx).1
    rw [← e]; omega
  · have h3 := h.sams hs
    have h4 : (d.map (·.2)).flatten.length ≤ 1000000000000 := h2
    omega

set_option maxRecDepth 100000 in
set_option maxHeartbeats 1000000 in
theorem joinAll_any (W : World) (v : Value) (bss : List (List Ser)) (hv : RowsR W v bss) (hok : ∀ bs ∈ bss, BatchOk bs) (hall : ∀ s ∈ bss.flatten, SerFit s ∧ Ranged s) (hn : bss.length ≤ 1000000000) (hfl : bss.flatten.length ≤ 1000000000) (hsa : samN bss.flatten ≤ 1000000000000) :
    Calls Tryz.prog 46 #[v] W fun e w' => ∃ j n, IsJoin bss j ∧ Code j n ∧ Below W.heap.size W w' ∧ ((n = 0 ∧ ∃ jv, e = .returned (.tuple #[jv, .int .i64 0]) ∧ Fresh w' W.heap.size jv j) ∨ (n ≠ 0 ∧ e = .returned (.tuple #[.slice none 0 0, .int .i64 n]))) := by
  obtain ⟨va, vc, rfl, -⟩ := id hv
  have C1 := hide (joinBatches_any W _ bss hv (fun l hl => LLt_cmp ((batchOk_iff l).1 (hok l hl)).2) (fun s hs => (hall s hs).1) hn hfl hsa)
  have HOk := hide hok
  have HAll := hide hall
  have HSa := hide hsa
  clear hv hok hall hsa
  go_enter Tryz.func46, Tryz.ntmps46
  go_wp2_with fail
  refine C1.out.mono ?_
  rintro e w1 ⟨jv, j, rfl, hT, hF, hb1⟩
  have hba := hF.batchAt (hT.ranged fun s hs => (HAll.out s hs).2)
  obtain ⟨ja, jc, rfl, -⟩ := id hba
  have C2 := hide (check_any w1.heap.size w1.heap.size (.slice ja j.length jc) j (w1.alloc (.cells #[.slice ja j.length jc] 39)) (World.cell?_alloc_new _ _ _ 0) (hba.kept fun k hk => heap_alloc_old w1 _ hk) (by simp) (by simp) (hT.small (fun s hs => (HAll.out s hs).1) hfl HSa.out))
  have HJ := hide (hT.join HOk.out)
  have HF := hide hF
  have HB1 := hide hb1
  have hs1 := hb1.size
  clear C1 hT hF hb1 hba
  go_wp2_with fail
  refine C2.out.mono ?_
  rintro e w2 ⟨⟨n, rfl, hn2⟩, hb2⟩
  have hb12 : Below w1.heap.size w1 w2 := ((Below.refl _ _).alloc (Nat.le_refl _) _).trans (hb2.mono (by simp))
  have HB2 : Hid (Below W.heap.size W w2) := HB1.out.trans (hb12.mono hs1)
  have HC := hide hn2
  have HF2 : Hid (Fresh w2 W.heap.size (.slice ja j.length jc) j) := by
    obtain ⟨vals, h1, h2⟩ := HF.out
    exact ⟨vals, own_kept h1 fun k e => hb12.block k (World.ownsRow.lt h1 k e).2, h2.kept fun k _ hk => hb12.block k hk⟩
  clear C2 hb2 hb12 HF HB1 hn2
  by_cases h0 : n = 0
  · subst h0
    go_wp2
    go_ret2
    exact ⟨j, 0, HJ.out, HC.out, HB2.out, .inl ⟨rfl, _, rfl, HF2.out⟩⟩
  · have h1 : ¬ (n : Int) = 0 := by omega
    have h2 : ((n : Int) == 0) = false := by simp [h0]
    go_wp2
    go_ret2
    exact ⟨j, n, HJ.out, HC.out, HB2.out, .inr ⟨h0, rfl⟩⟩
end Go.Proofs.YtamcclcbmenjdaaGreatDoor

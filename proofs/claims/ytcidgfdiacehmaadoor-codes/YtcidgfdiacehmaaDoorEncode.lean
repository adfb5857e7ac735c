/- Check, Encode. -/
import Derived.Test.YtcidgfdiacehmaaDoorCheck
namespace Go.Proofs.YtcidgfdiacehmaaDoor
open Go.RowKit Go.Lib

/-- The error of a list of series: 1 no batch, 2 beyond the limits, 0 none. -/
def Code (bs : List Ser) (n : Nat) : Prop := (n = 1 ∧ ¬ BatchOk bs) ∨ (n = 2 ∧ BatchOk bs ∧ ¬ LimitsOk bs) ∨ (n = 0 ∧ BatchOk bs ∧ LimitsOk bs)

/-- The error of several lists of series. -/
def CodeAll (bss : List (List Ser)) (n : Nat) : Prop := (n = 1 ∧ ¬ ∀ bs ∈ bss, BatchOk bs) ∨ (n = 2 ∧ (∀ bs ∈ bss, BatchOk bs) ∧ ¬ ∀ bs ∈ bss, LimitsOk bs) ∨ (n = 0 ∧ (∀ bs ∈ bss, BatchOk bs) ∧ ∀ bs ∈ bss, LimitsOk bs)
theorem mem_get {bss : List (List Ser)} {P : List Ser → Prop} (h : ∀ i bs, i < bss.length → bss[i]? = some bs → P bs) : ∀ bs ∈ bss, P bs := fun bs hb => by
  obtain ⟨i, hi, e⟩ := List.mem_iff_getElem.1 hb
  exact h i bs hi (by rw [List.getElem?_eq_getElem hi, e])

set_option maxRecDepth 100000 in
set_option maxHeartbeats 400000 in
theorem checks_any (B bb bo cap : Nat) (bss : List (List Ser)) (w : World) (hc : ∀ i bs, bss[i]? = some bs → ∃ v, w.cell? ⟨bb, bo + i, none⟩ = some v ∧ BatchAt w B v bs) (hbb : bb < w.heap.size) (hB : B ≤ w.heap.size)
    (hsm : ∀ bs ∈ bss, Small bs) (hlen : bss.length ≤ 1000) :
    Calls Tryd.prog 21 #[.slice (some ⟨bb, bo, none⟩) bss.length cap] w fun e w' => (∃ n : Nat, e = .returned (.int .i64 n) ∧ CodeAll bss n) ∧ Below w.heap.size w w' := by
  have HC := hide hc
  have HSm := hide hsm
  clear hc hsm
  go_enter Tryd.func21, Tryd.ntmps21
  go_wp2
  go_loopw [4, 9] (fun _ i wr => ∃ k : Nat, k ≤ bss.length ∧ i = .int .i64 k ∧ Below w.heap.size w wr ∧ Hid (∀ i bs, i < k → bss[i]? = some bs → BatchOk bs)) (fun _ i _ => bss.length - (intOf i).toNat)
  case atStart => exact ⟨0, Nat.zero_le _, rfl, Below.refl _ _, fun i x h => by omega⟩
  case round =>
    obtain ⟨k, hk, rfl, hbl, HR⟩ := hrel
    have hsz := hbl.size
    have HBl := hide hbl
    by_cases hlt : k < bss.length
    · obtain ⟨bs, hy⟩ : ∃ y, bss[k]? = some y := ⟨_, List.getElem?_eq_getElem hlt⟩
      obtain ⟨v, c1, hv⟩ := HC.out k bs hy
      have m1 := (hbl.cell (p := ⟨bb, bo + k, none⟩) hbb).trans c1
      have C1 := hide (isBatch_any B v bs wr (hv.below hbl hB) (by omega) (HSm.out bs (List.mem_of_getElem? hy)))
      obtain ⟨a, c, rfl, _⟩ := id hv
      have HY := hide hy
      clear hy hv c1 hbl
      go_wp2_with fail
      refine C1.out.mono ?_
      rintro e w1 ⟨⟨r1, rfl, hr1⟩, hb1⟩
      have HB1 := hide (HBl.out.trans (hb1.mono hsz))
      cases r1 with
      | false =>
        have hno : CodeAll bss 1 := .inl ⟨rfl, fun h => by have := hr1.2 (h bs (List.mem_of_getElem? HY.out)); cases this⟩
        have HNo := hide hno
        clear hno hr1 hb1 m1
        go_wp2
        go_ret
        exact ⟨⟨1, rfl, HNo.out⟩, HB1.out⟩
      | true =>
        have HR1 := hide (hr1.1 rfl)
        clear hr1 hb1 m1 C1
        go_wp2
        go_roundw
        case rel => exact ⟨k + 1, by omega, by go_num, HB1.out, fun i x hi hx => by
            by_cases he : i = k
            · subst he; have h := HY.out; rw [hx] at h; cases h; exact HR1.out
            · exact HR.out i x (by omega) hx⟩
        case measure => simp [intOf]; omega
    · have HA : Hid (∀ bs ∈ bss, BatchOk bs) := mem_get fun i bs hi hx => HR.out i bs (by omega) hx
      clear hbl HR
      go_wp2
      go_loopw [6, 19] (fun _ i wr => ∃ k : Nat, k ≤ bss.length ∧ i = .int .i64 k ∧ Below w.heap.size w wr ∧ Hid (∀ i bs, i < k → bss[i]? = some bs → LimitsOk bs)) (fun _ i _ => bss.length - (intOf i).toNat)
      case atStart => exact ⟨0, Nat.zero_le _, rfl, HBl.out, fun i x h => by omega⟩
      case round =>
        obtain ⟨k, hk, rfl, hbl, HR⟩ := hrel
        have hsz := hbl.size
        have HBl := hide hbl
        by_cases hlt : k < bss.length
        · obtain ⟨bs, hy⟩ : ∃ y, bss[k]? = some y := ⟨_, List.getElem?_eq_getElem hlt⟩
          obtain ⟨v, c1, hv⟩ := HC.out k bs hy
          have m1 := (hbl.cell (p := ⟨bb, bo + k, none⟩) hbb).trans c1
          have C1 := hide (withinLimits_any B v bs wr (hv.below hbl hB) (by omega) (HSm.out bs (List.mem_of_getElem? hy)).series)
          obtain ⟨a, c, rfl, _⟩ := id hv
          have HY := hide hy
          clear hy hv c1 hbl
          go_wp2_with fail
          refine C1.out.mono ?_
          rintro e w1 ⟨⟨r1, rfl, hr1⟩, hb1⟩
          have HB1 := hide (HBl.out.trans (hb1.mono hsz))
          cases r1 with
          | false =>
            have hno : CodeAll bss 2 := .inr (.inl ⟨rfl, HA.out, fun h => by have := hr1.2 (h bs (List.mem_of_getElem? HY.out)); cases this⟩)
            have HNo := hide hno
            clear hno hr1 hb1 m1
            go_wp2
            go_ret
            exact ⟨⟨2, rfl, HNo.out⟩, HB1.out⟩
          | true =>
            have HR1 := hide (hr1.1 rfl)
            clear hr1 hb1 m1 C1
            go_wp2
            go_roundw
            case rel => exact ⟨k + 1, by omega, by go_num, HB1.out, fun i x hi hx => by
                by_cases he : i = k
                · subst he; have h := HY.out; rw [hx] at h; cases h; exact HR1.out
                · exact HR.out i x (by omega) hx⟩
            case measure => simp [intOf]; omega
        · have hno : CodeAll bss 0 := .inr (.inr ⟨rfl, HA.out, mem_get fun i bs hi hx => HR.out i bs (by omega) hx⟩)
          have HNo := hide hno
          clear hno hbl HR
          go_wp2
          go_ret
          exact ⟨⟨0, rfl, HNo.out⟩, HBl.out⟩

/-- One list of series, handed over in the block bb. -/
theorem check_any (B bb : Nat) (v : Value) (bs : List Ser) (w : World) (hc : w.cell? ⟨bb, 0, none⟩ = some v) (hS : BatchAt w B v bs) (hbb : bb < w.heap.size) (hB : B ≤ w.heap.size) (hsm : Small bs) :
    Calls Tryd.prog 21 #[.slice (some ⟨bb, 0, none⟩) 1 1] w fun e w' => (∃ n : Nat, e = .returned (.int .i64 n) ∧ Code bs n) ∧ Below w.heap.size w w' := by
  refine (checks_any B bb 0 1 [bs] w (fun i x hx => ?_) hbb hB (fun x hx => by rw [List.mem_singleton.1 hx]; exact hsm) (by simp)).mono ?_
  · cases i with
    | zero => cases hx; exact ⟨v, hc, hS⟩
    | succ i => simp at hx
  · rintro e w' ⟨⟨n, rfl, hn⟩, hb⟩
    refine ⟨⟨n, rfl, ?_⟩, hb⟩
    simpa [CodeAll, Code] using hn

theorem fits_of {bs : List Ser} (h1 : BatchOk bs) (h2 : LimitsOk bs) : Fits bs := by
  have hg : ∀ s ∈ bs, ∃ i, i < bs.length ∧ bs[i]? = some s := fun s hs => by
    obtain ⟨i, hi, e⟩ := List.mem_iff_getElem.1 hs
    exact ⟨i, hi, by rw [List.getElem?_eq_getElem hi, e]⟩
  refine ⟨h2.2, fun s hs => ?_, fun s hs => ?_, fun s hs l hl => ?_⟩
  · obtain ⟨i, hi, e⟩ := hg s hs; exact (h2.1 i s hi e).1
  · obtain ⟨i, hi, e⟩ := hg s hs; exact ⟨(h1.1 i s hi e).2.1, (h2.1 i s hi e).2⟩
  · obtain ⟨i, hi, e⟩ := hg s hs
    obtain ⟨j, hj, e2⟩ := List.mem_iff_getElem.1 hl
    have := (h1.1 i s hi e).1.1 j l hj (by rw [List.getElem?_eq_getElem hj, e2])
    exact ⟨this.2.1, this.2.2⟩
theorem varint_pos (n : Nat) : 0 < (Pl.varint n).length := by
  unfold Pl.varint Pl.varintF; split <;> simp
theorem payload_bounds {bs : List Ser} (h : Fits bs) : (payload bs).length ≤ 60000 ∧ 0 < (payload bs).length := by
  have h1 := Pl.varint_length (sortedTexts (allTexts bs)).length
  have hp := varint_pos (sortedTexts (allTexts bs)).length
  have hs := allTexts_small bs h
  have h2 := textsBytes_len (sortedTexts (allTexts bs)) fun x hx => hs.2 x (sortedTexts_mem hx)
  have h3 := sortedTexts_len (allTexts bs)
  have h4 := Pl.varint_length bs.length
  have h5 := seriesAll_len (sortedTexts (allTexts bs)) bs fun s hs => ⟨h.labels s hs, (h.samples s hs).2⟩
  have h6 := h.series
  have h7 := hs.1
  simp only [payload, List.length_append]
  constructor <;> omega

set_option maxRecDepth 100000 in
set_option maxHeartbeats 400000 in
/-- Encode: the error, or the frame. -/
theorem encode_any (B : Nat) (v : Value) (bs : List Ser) (w : World) (hS : BatchAt w B v bs) (hB : B ≤ w.heap.size) (hT : Tabs w) (hsm : Small bs) :
    Calls Tryd.prog 8 #[v] w fun e w' => (∃ n : Nat, Code bs n ∧ e = .returned (.tuple #[.string (if n = 0 then ⟨(frameOf (payload bs)).toArray⟩ else ByteArray.empty), .int .i64 n])) ∧ Below w.heap.size w w' := by
  obtain ⟨va, vc, rfl, _⟩ := id hS
  have C1 := hide (check_any B w.heap.size _ bs (w.alloc (.cells #[.slice va bs.length vc] 22)) (World.cell?_alloc_new _ _ _ 0) (hS.kept fun k hk => heap_alloc_old w _ (by omega)) (by simp) (by simp; omega) hsm)
  have HS := hide hS
  have HT := hide hT
  have h3 := hT.lt
  clear hS hsm hT
  go_enter Tryd.func8, Tryd.ntmps8
  go_wp2_with fail
  refine C1.out.mono ?_
  rintro e w1 ⟨⟨n, rfl, hn⟩, hb1⟩
  have hb1 : Below w.heap.size w w1 := ((Below.refl w.heap.size w).alloc (Nat.le_refl _) _).trans (hb1.mono (by simp))
  have HB1 := hide hb1
  have HN := hide hn
  by_cases h0 : n = 0
  · subst h0
    have hok : BatchOk bs ∧ LimitsOk bs := by
      rcases hn with ⟨h, _⟩ | ⟨h, _⟩ | ⟨_, h⟩
      · cases h
      · cases h
      · exact h
    have hF := fits_of hok.1 hok.2
    have hp := payload_bounds hF
    have C2 := hide (Pack_any B _ bs w1 (HS.out.below hb1 hB) (by have := hb1.size; omega) (HT.out.below hb1 (by omega)) hF hp.1 hp.2)
    clear hb1 hn hok hF hp C1
    go_wp2_with fail
    refine C2.out.mono ?_
    rintro e w2 ⟨rfl, hb2⟩
    have HB2 := hide (HB1.out.trans (hb2.mono HB1.out.size))
    clear hb2
    go_wp2
    go_ret2
    exact ⟨⟨0, HN.out, rfl⟩, HB2.out⟩
  · have hne : ((n : Int) != 0) = true := by simp; omega
    have HE : Hid ((if n = 0 then (⟨(frameOf (payload bs)).toArray⟩ : ByteArray) else ByteArray.empty) = ByteArray.empty) := if_neg h0
    clear hb1 hn C1
    go_wp2
    go_ret2
    exact ⟨⟨n, HN.out, by rw [HE.out]; rfl⟩, HB1.out⟩
end Go.Proofs.YtcidgfdiacehmaaDoor

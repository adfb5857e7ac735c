/- 'choirkeep.Lattice', for any three lists of raw samples: joins do not hang on order, grouping and how often; with bytes and without it is the same. The first form's statement and its card: no condition beside the row's own. -/
import Derived.Test.YtamcclcbmenjdaaGreatDoorLatticeG2
import Derived.Laws.BitsLemmas
import Derived.Laws.Bits64
import Derived.Laws.Bits64b
/- withinLimits, isBatch, Check. -/
namespace Go.Proofs.YtamcclcbmenjdaaGreatDoor
open Go.RowKit Go.Lib

theorem BatchAt.get {w : World} {B : Nat} {a : Option Addr} {n c : Nat} {bs : List Ser} (h : BatchAt w B (.slice a n c) bs) {k : Nat} {x : Ser} (hx : bs[k]? = some x) :
    ∃ b o la lc sa sc, a = some ⟨b, o, none⟩ ∧ b < B ∧ w.cell? ⟨b, o + k * 2, none⟩ = some (.slice la x.1.length lc) ∧ w.cell? ⟨b, o + k * 2 + 1, none⟩ = some (.slice sa x.2.length sc) ∧
      LabelsAt w B (.slice la x.1.length lc) x.1 ∧ SamplesAt w B (.slice sa x.2.length sc) x.2 := by
  obtain ⟨a', c', hv, _, h2⟩ := h
  cases hv
  rcases h2 with h2 | ⟨b, o, ha, hb, hc⟩
  · rw [h2] at hx; cases hx
  · obtain ⟨lv, sv, h1, h2, h3, h4⟩ := hc k x hx
    obtain ⟨la, lc, rfl, _⟩ := id h3
    obtain ⟨sa, sc, rfl, _⟩ := id h4
    exact ⟨b, o, la, lc, sa, sc, ha, hb, h1, h2, h3, h4⟩
theorem BatchAt.below {w w' : World} {B B' : Nat} {v : Value} {bs : List Ser} (h : BatchAt w B v bs) (hb : Below B' w w') (hB : B ≤ B') : BatchAt w' B v bs := h.kept fun k hk => hb.block k (by omega)

def LimTo (bs : List Ser) (k : Nat) : Prop := ∀ i x, i < k → bs[i]? = some x → x.1.length ≤ 4 ∧ x.2.length ≤ 40
def LimitsOk (bs : List Ser) : Prop := LimTo bs bs.length ∧ bs.length ≤ 8
theorem LimTo.succ {bs : List Ser} {k : Nat} {y : Ser} (h : LimTo bs k) (hy : bs[k]? = some y) (h1 : y.1.length ≤ 4) (h2 : y.2.length ≤ 40) : LimTo bs (k + 1) := by
  intro i x hi hx
  by_cases he : i = k
  · subst he; rw [hy] at hx; cases hx; exact ⟨h1, h2⟩
  · exact h i x (by omega) hx

set_option maxRecDepth 100000 in
set_option maxHeartbeats 400000 in
theorem withinLimits_any (B : Nat) (v : Value) (bs : List Ser) (w : World) (hS : BatchAt w B v bs) (hB : B ≤ w.heap.size) (hll : bs.length ≤ 10000000000000) :
    Calls Tryz.prog 102 #[v] w fun e w' => BoolOf e (LimitsOk bs) ∧ Below w.heap.size w w' := by
  obtain ⟨a, c, rfl, _⟩ := id hS
  have HS := hide hS
  clear hS
  go_enter Tryz.func102, Tryz.ntmps102
  go_wp2
  go_loopw [4, 7] (fun _ i wr => ∃ k : Nat, k ≤ bs.length ∧ i = .int .i64 k ∧ Below w.heap.size w wr ∧ Hid (LimTo bs k)) (fun _ i _ => bs.length - (intOf i).toNat)
  case atStart => exact ⟨0, Nat.zero_le _, rfl, Below.refl _ _, fun i x h => by omega⟩
  case round =>
    obtain ⟨k, hk, rfl, hbl, HR⟩ := hrel
    have hsz := hbl.size
    have HBl := hide hbl
    clear hbl
    by_cases hlt : k < bs.length
    · obtain ⟨⟨y1, y2⟩, hy⟩ : ∃ y, bs[k]? = some y := ⟨_, List.getElem?_eq_getElem hlt⟩
      obtain ⟨b, o, la, lc, sa, sc, rfl, hb, c1, c2, _, _⟩ := (HS.out.below HBl.out hB).get hy
      have hbw : b < wr.heap.size := by omega
      have HY := hide hy
      have HBA := hide (HBl.out.alloc hsz (.cells #[.slice la y1.length lc, .slice sa y2.length sc] 38))
      clear hy
      simp only at c1 c2
      by_cases h1 : 4 < y1.length
      · have hno : ¬ LimitsOk bs := fun h => by have h2 : y1.length ≤ 4 := (h.1 k _ hlt HY.out).1; omega
        have HNo := hide hno
        clear hno HR HY
        go_wp2
        go_ret
        exact ⟨BoolOf.no HNo.out, HBA.out⟩
      · by_cases h2 : 40 < y2.length
        · have hno : ¬ LimitsOk bs := fun h => by have h2 : y2.length ≤ 40 := (h.1 k _ hlt HY.out).2; omega
          have HNo := hide hno
          clear hno HR HY
          go_wp2
          go_ret
          exact ⟨BoolOf.no HNo.out, HBA.out⟩
        · go_wp2
          go_roundw
          case rel => exact ⟨k + 1, by omega, by go_num, HBA.out, HR.out.succ HY.out (by show y1.length ≤ 4; omega) (by show y2.length ≤ 40; omega)⟩
          case measure => simp [intOf]; omega
    · have hke : k = bs.length := by omega
      have HY : Hid (LimTo bs bs.length) := by show LimTo bs bs.length; rw [← hke]; exact HR.out
      clear hke
      by_cases h8 : bs.length ≤ 8
      · have h8b : decide ((bs.length : Int) ≤ 8) = true := by simp; omega
        go_wp2
        go_ret
        exact ⟨BoolOf.yes ⟨HY.out, h8⟩, HBl.out⟩
      · have h8b : decide ((bs.length : Int) ≤ 8) = false := by simp; omega
        go_wp2
        go_ret
        exact ⟨BoolOf.no fun h => h8 h.2, HBl.out⟩

def BatTo (bs : List Ser) (k : Nat) : Prop := (∀ i x, i < k → bs[i]? = some x → LabelsOk x.1 ∧ SamplesOk x.2) ∧ ∀ i x y, i + 1 < k → bs[i]? = some x → bs[i + 1]? = some y → cmpLabs x.1 y.1 < 0
def BatchOk (bs : List Ser) : Prop := BatTo bs bs.length
theorem BatTo.one {bs : List Ser} {y : Ser} (_ : BatTo bs 0) (hy : bs[0]? = some y) (h1 : LabelsOk y.1) (h2 : SamplesOk y.2) : BatTo bs 1 := by
  refine ⟨fun i x hi hx => ?_, fun i x y h => by omega⟩
  obtain rfl : i = 0 := by omega
  rw [hy] at hx; cases hx; exact ⟨h1, h2⟩
theorem BatTo.succ {bs : List Ser} {k : Nat} {x y : Ser} (h : BatTo bs (k + 1)) (hx : bs[k]? = some x) (hy : bs[k + 1]? = some y) (h1 : LabelsOk y.1) (h2 : SamplesOk y.2) (hlt : cmpLabs x.1 y.1 < 0) : BatTo bs (k + 2) := by
  refine ⟨fun i u hi hu => ?_, fun i u v hi hu hv => ?_⟩
  · by_cases he : i = k + 1
    · subst he; rw [hy] at hu; cases hu; exact ⟨h1, h2⟩
    · exact h.1 i u (by omega) hu
  · by_cases he : i = k
    · subst he
      rw [hx] at hu; rw [hy] at hv
      cases hu; cases hv; exact hlt
    · exact h.2 i u v (by omega) hu hv

/-- What a batch that may be none is bounded by, so that no count wraps. -/
structure Small (bs : List Ser) : Prop where
  series : bs.length ≤ 10000000000000
  labels : ∀ s ∈ bs, s.1.length ≤ 10000000000000
  samples : ∀ s ∈ bs, s.2.length ≤ 10000000000000

set_option maxRecDepth 100000 in
set_option maxHeartbeats 400000 in
theorem isBatch_any (B : Nat) (v : Value) (bs : List Ser) (w : World) (hS : BatchAt w B v bs) (hB : B ≤ w.heap.size) (hsm : Small bs) :
    Calls Tryz.prog 101 #[v] w fun e w' => BoolOf e (BatchOk bs) ∧ Below w.heap.size w w' := by
  obtain ⟨a, c, rfl, _⟩ := id hS
  have HS := hide hS
  have hll := hsm.series
  have HSm := hide hsm
  clear hS hsm
  go_enter Tryz.func101, Tryz.ntmps101
  go_wp2
  go_loopw [3, 4, 7] (fun _ _ i wr => ∃ k : Nat, k ≤ bs.length ∧ i = .int .i64 k ∧ Below w.heap.size w wr ∧ Hid (BatTo bs k)) (fun _ _ i _ => bs.length - (intOf i).toNat)
  case atStart => exact ⟨0, Nat.zero_le _, rfl, Below.refl _ _, ⟨fun i x h => by omega, fun i x y h => by omega⟩⟩
  case round =>
    obtain ⟨k, hk, rfl, hbl, HR⟩ := hrel
    have hsz := hbl.size
    have HBl := hide hbl
    clear hbl
    by_cases hlt : k < bs.length
    · obtain ⟨⟨y1, y2⟩, hy⟩ : ∃ y, bs[k]? = some y := ⟨_, List.getElem?_eq_getElem hlt⟩
      have KS := HS.out.below HBl.out hB
      obtain ⟨b, o, la, lc, sa, sc, rfl, hb, c1, c2, hLa, hSa⟩ := KS.get hy
      have hbw : b < wr.heap.size := by omega
      have hym := List.mem_of_getElem? hy
      have hl1 : y1.length ≤ 10000000000000 := HSm.out.labels _ hym
      have hl2 : y2.length ≤ 10000000000000 := HSm.out.samples _ hym
      have HY := hide hy
      obtain ⟨W, hW⟩ : ∃ W, W = wr.alloc (.cells #[.slice la y1.length lc, .slice sa y2.length sc] 38) := ⟨_, rfl⟩
      have hWk : ∀ q, q < wr.heap.size → W.heap[q]? = wr.heap[q]? := fun q hq => by rw [hW]; exact heap_alloc_old wr _ hq
      have hWs : W.heap.size = wr.heap.size + 1 := by rw [hW]; simp
      have HBW : Hid (Below w.heap.size w W) := by rw [hW]; exact HBl.out.alloc hsz _
      have n0 : W.cell? ⟨wr.heap.size, 0, none⟩ = some (.slice la y1.length lc) := by rw [hW]; exact World.cell?_alloc_new _ _ _ 0
      have n1 : W.cell? ⟨wr.heap.size, 1, none⟩ = some (.slice sa y2.length sc) := by rw [hW]; exact World.cell?_alloc_new _ _ _ 1
      have KW : BatchAt W B (.slice (some ⟨b, o, none⟩) bs.length c) bs := KS.kept fun q hq => hWk q (by omega)
      have C1 := hide (areLabels_any B _ y1 W (hLa.kept fun q hq => hWk q (by omega)) (by omega) (by omega))
      have hSW : SamplesAt W B (.slice sa y2.length sc) y2 := hSa.kept fun q hq => hWk q (by omega)
      have hLW : LabelsAt W B (.slice la y1.length lc) y1 := hLa.kept fun q hq => hWk q (by omega)
      have HSW := hide hSW
      have HLW := hide hLW
      have HKW := hide KW
      have HW := hide hW
      clear hy hym KS hLa hSa hWk KW hSW hLW hW
      simp only at c1 c2
      go_wp2_with fail
      rw [← HW.out]
      refine C1.out.mono ?_
      rintro e w2 ⟨⟨r1, rfl, hr1⟩, hb2⟩
      cases r1 with
      | false =>
        have hno : ¬ BatchOk bs := fun h => by have := hr1.2 (h.1 k _ hlt HY.out).1; cases this
        have HNo := hide hno
        have HB2 := hide (HBW.out.trans (hb2.mono (by omega)))
        clear hno HR HY hb2 hr1
        go_wp2
        go_ret
        exact ⟨BoolOf.no HNo.out, HB2.out⟩
      | true =>
        have HR1 := hide (hr1.1 rfl)
        have p0 : w2.cell? ⟨wr.heap.size, 0, none⟩ = some (.slice la y1.length lc) := (hb2.cell (p := ⟨wr.heap.size, 0, none⟩) (by show wr.heap.size < W.heap.size; omega)).trans n0
        have p1 : w2.cell? ⟨wr.heap.size, 1, none⟩ = some (.slice sa y2.length sc) := (hb2.cell (p := ⟨wr.heap.size, 1, none⟩) (by show wr.heap.size < W.heap.size; omega)).trans n1
        have C2 := hide (areSamples_any B _ y2 w2 (HSW.out.below hb2 (by omega)) (by have := hb2.size; omega) (by omega))
        have HB2 := hide hb2
        clear hb2 hr1 C1
        go_wp2_with fail
        refine C2.out.mono ?_
        rintro e w3 ⟨⟨r2, rfl, hr2⟩, hb3⟩
        cases r2 with
        | false =>
          have hno : ¬ BatchOk bs := fun h => by have := hr2.2 (h.1 k _ hlt HY.out).2; cases this
          have HNo := hide hno
          have HB3 := hide ((HBW.out.trans (HB2.out.mono (by omega))).trans (hb3.mono (by have := HB2.out.size; omega)))
          clear hno HR HY hb3 hr2
          go_wp2
          go_ret
          exact ⟨BoolOf.no HNo.out, HB3.out⟩
        | true =>
          have HR2 := hide (hr2.1 rfl)
          have HB3 := hide (HB2.out.trans (hb3.mono HB2.out.size))
          have q0 : w3.cell? ⟨wr.heap.size, 0, none⟩ = some (.slice la y1.length lc) := (HB3.out.cell (p := ⟨wr.heap.size, 0, none⟩) (by show wr.heap.size < W.heap.size; omega)).trans n0
          have HBA := hide (HBW.out.trans (HB3.out.mono (by omega)))
          have hs3 : W.heap.size ≤ w3.heap.size := HB3.out.size
          clear hb3 hr2 C2 p0 p1 HB2
          cases k with
          | zero =>
            go_wp2
            go_quiet (fail)
            go_wp2
            go_roundw
            case rel => exact ⟨1, by omega, by go_num, below_drewN HBA.out _, HR.out.one HY.out HR1.out HR2.out⟩
            case measure => simp [intOf]; omega
          | succ j =>
            obtain ⟨⟨x1, x2⟩, hx⟩ : ∃ x, bs[j]? = some x := ⟨_, List.getElem?_eq_getElem (by omega)⟩
            have K3 := HKW.out.below HB3.out (by omega)
            obtain ⟨b2, o2, la2, lc2, sa2, sc2, hh2, hb2, d1, _, hL2, _⟩ := K3.get hx
            cases hh2
            have C := hide (compareFunc_any B _ _ x1 y1 w3.drew (hL2.kept fun _ _ => rfl) ((HLW.out.below HB3.out (by omega)).kept fun _ _ => rfl) (by show B ≤ w3.heap.size; omega) (HSm.out.labels _ (List.mem_of_getElem? hx)))
            have HX := hide hx
            have hbw3 : b < w3.heap.size := by omega
            clear hx K3 hL2
            simp only at d1
            have hj0 : (0 : Int) < ((j + 1 : Nat) : Int) := by omega
            have hj1 : (j : Int) < (bs.length : Int) := by omega
            have hj2 : (0 : Int) ≤ (j : Int) := by omega
            have hjw : IntKind.i64.wrap (j : Int) = (j : Int) := by rw [IntKind.wrap_i64]; omega
            have hjw2 : IntKind.i64.wrap (((j + 1 : Nat) : Int) - 1) = (j : Int) := by rw [IntKind.wrap_i64]; omega
            have hwr3 : wr.heap.size < w3.heap.size := by omega
            generalize hcq : cmpLabs x1 y1 = q at *
            have HQ : Hid (cmpLabs x1 y1 = q) := hcq
            clear hcq
            by_cases hc : 0 ≤ q
            · have hno : ¬ BatchOk bs := fun h => by have h2 : cmpLabs x1 y1 < 0 := h.2 j _ _ (by omega) HX.out HY.out; rw [HQ.out] at h2; omega
              have HNo := hide hno
              clear hno HR HY HX
              go_wp2
              as_aux_lemma =>
                go_region_held3 (fun w' => w'.cell? ⟨b, o + j * 2, none⟩ = some (.slice la2 x1.length lc2) ∧ w'.cell? ⟨wr.heap.size, 0, none⟩ = some (.slice la y1.length lc)) (go_keep) (first | (go_at_call 129; refine C.out.mono ?_; rintro e w4 ⟨rfl, hb4⟩; have e1 := (hb4.cell (p := ⟨b, o + j * 2, none⟩) (by show b < w3.heap.size; omega)).trans d1; have e2 := (hb4.cell (p := ⟨wr.heap.size, 0, none⟩) (by show wr.heap.size < w3.heap.size; omega)).trans q0))
                all_goals
                  have HB4 := hide (HBA.out.drew.trans (hb4.mono (by show w.heap.size ≤ w3.heap.size; omega)))
                  clear hb4 e1 e2
                  go_wp2
                  go_ret
                  exact ⟨BoolOf.no HNo.out, HB4.out⟩
            · have hcd : decide (0 ≤ q) = false := decide_eq_false hc
              have HR3 := hide (HR.out.succ HX.out HY.out HR1.out HR2.out (by show cmpLabs x1 y1 < 0; rw [HQ.out]; omega))
              clear HR HY HX
              go_wp2
              as_aux_lemma =>
                go_region_held3 (fun w' => w'.cell? ⟨b, o + j * 2, none⟩ = some (.slice la2 x1.length lc2) ∧ w'.cell? ⟨wr.heap.size, 0, none⟩ = some (.slice la y1.length lc)) (go_keep) (first | (go_at_call 129; refine C.out.mono ?_; rintro e w4 ⟨rfl, hb4⟩; have e1 := (hb4.cell (p := ⟨b, o + j * 2, none⟩) (by show b < w3.heap.size; omega)).trans d1; have e2 := (hb4.cell (p := ⟨wr.heap.size, 0, none⟩) (by show wr.heap.size < w3.heap.size; omega)).trans q0))
                all_goals
                  have HB4 := hide (HBA.out.drew.trans (hb4.mono (by show w.heap.size ≤ w3.heap.size; omega)))
                  clear hb4 e1 e2
                  go_wp2
                  go_roundw
                  case rel => exact ⟨j + 2, by omega, by go_num, HB4.out, HR3.out⟩
                  case measure => simp [intOf]; omega
    · have hke : k = bs.length := by omega
      have HY : Hid (BatchOk bs) := by show BatTo bs bs.length; rw [← hke]; exact HR.out
      clear hke
      go_wp2
      go_ret
      exact ⟨BoolOf.yes HY.out, HBl.out⟩
end Go.Proofs.YtamcclcbmenjdaaGreatDoor

/- The reference: less, Order, Within. -/
namespace Go.Proofs.YtamcclcbmenjdaaGreatDoor
open Go.RowKit Go.Lib

theorem bl_cmp : ∀ (x y : List UInt8), (Op.bytesLess x y = true ↔ Lib.compareBytes x y = -1) ∧ (x = y ↔ Lib.compareBytes x y = 0) ∧ (Lib.compareBytes x y = -1 ∨ Lib.compareBytes x y = 0 ∨ Lib.compareBytes x y = 1) ∧ Lib.compareBytes y x = - Lib.compareBytes x y
  | [], [] => by simp [Op.bytesLess, Lib.compareBytes]
  | [], _ :: _ => by simp [Op.bytesLess, Lib.compareBytes]
  | _ :: _, [] => by simp [Op.bytesLess, Lib.compareBytes]
  | a :: r, b :: q => by
    have ih := bl_cmp r q
    by_cases hab : a = b
    · subst hab
      simpa [Op.bytesLess, Lib.compareBytes] using ih
    · by_cases hlt : a < b
      · have hlt2 : ¬ b < a := fun h => absurd (UInt8.lt_trans hlt h) (UInt8.lt_irrefl _)
        simp [Op.bytesLess, Lib.compareBytes, hab, hlt, hlt2]
      · have hlt2 : b < a := by rcases UInt8.lt_or_lt_of_ne hab with h | h; exact absurd h hlt; exact h
        simp [Op.bytesLess, Lib.compareBytes, hab, hlt, hlt2]

/-- Is a label ahead of another? -/
def lessLab (x y : Lab) : Bool := Op.bytesLess x.1.toList y.1.toList || (x.1.toList == y.1.toList && Op.bytesLess x.2.toList y.2.toList)

theorem toList_data (a : ByteArray) : a.toList = a.data.toList := ByteArray.toList_eq a
theorem lessLab_cmp (x y : Lab) : (lessLab x y = true ↔ cmpLab x y = -1) ∧ (lessLab y x = true ↔ cmpLab x y = 1) ∧ (cmpLab x y = -1 ∨ cmpLab x y = 0 ∨ cmpLab x y = 1) := by
  have h1 := bl_cmp x.1.data.toList y.1.data.toList
  have h2 := bl_cmp x.2.data.toList y.2.data.toList
  have h3 := bl_cmp y.1.data.toList x.1.data.toList
  have h4 := bl_cmp y.2.data.toList x.2.data.toList
  unfold lessLab cmpLab cmpB
  simp only [toList_data, Bool.or_eq_true, Bool.and_eq_true, beq_iff_eq, h1.1, h2.1, h3.1, h4.1]
  rw [h1.2.1, h3.2.1, h1.2.2.2, h2.2.2.2]
  have a1 := h1.2.2.1
  have a2 := h2.2.2.1
  generalize Lib.compareBytes x.1.data.toList y.1.data.toList = p at *
  generalize Lib.compareBytes x.2.data.toList y.2.data.toList = q at *
  clear h1 h2 h3 h4
  split <;> omega

set_option maxRecDepth 100000 in
set_option maxHeartbeats 400000 in
theorem less_any (x y : Lab) (w : World) :
    Calls Tryz.prog 104 #[.agg #[.string x.1, .string x.2], .agg #[.string y.1, .string y.2]] w fun e w' => e = .returned (.bool (lessLab x y)) ∧ Below w.heap.size w w' := by
  obtain ⟨a, b⟩ := x
  obtain ⟨c, d⟩ := y
  have HL : Hid (lessLab (a, b) (c, d) = (Op.bytesLess a.toList c.toList || (a.toList == c.toList && Op.bytesLess b.toList d.toList))) := rfl
  cases h1 : Op.bytesLess a.toList c.toList with
  | true =>
    go_enter Tryz.func104, Tryz.ntmps104
    go_wp2
    go_ret
    exact ⟨by rw [HL.out, h1]; rfl, (((Below.refl _ _).alloc (Nat.le_refl _) _).alloc (by simp) _)⟩
  | false =>
    cases h2 : a.toList == c.toList with
    | true =>
      go_enter Tryz.func104, Tryz.ntmps104
      go_wp2
      go_ret
      exact ⟨by rw [HL.out, h1, h2]; rfl, (((Below.refl _ _).alloc (Nat.le_refl _) _).alloc (by simp) _)⟩
    | false =>
      go_enter Tryz.func104, Tryz.ntmps104
      go_wp2
      go_ret
      exact ⟨by rw [HL.out, h1, h2]; rfl, (((Below.refl _ _).alloc (Nat.le_refl _) _).alloc (by simp) _)⟩

set_option maxRecDepth 100000 in
set_option maxHeartbeats 400000 in
theorem refOrder_any (B : Nat) (u v : Value) (l m : List Lab) (w : World) (hl : LabelsAt w B u l) (hm : LabelsAt w B v m) (hB : B ≤ w.heap.size) (hll : l.length ≤ 10000000000000) :
    Calls Tryz.prog 74 #[u, v] w fun e w' => e = .returned (.int .i64 (cmpLabs l m)) ∧ Below w.heap.size w w' := by
  obtain ⟨la, lc, rfl, _⟩ := id hl
  obtain ⟨ma, mc, rfl, _⟩ := id hm
  have HL := hide hl
  have HM := hide hm
  clear hl hm
  go_enter Tryz.func74, Tryz.ntmps74
  go_wp2
  go_loopw [5, 6, 7] (fun i _ _ wr => ∃ k : Nat, k ≤ l.length ∧ k ≤ m.length ∧ i = .int .i64 k ∧ Below w.heap.size w wr ∧ Hid (cmpLabs l m = cmpLabs (l.drop k) (m.drop k))) (fun i _ _ _ => l.length - (intOf i).toNat)
  case atStart => exact ⟨0, Nat.zero_le _, Nat.zero_le _, rfl, Below.refl _ _, rfl⟩
  case round =>
    obtain ⟨k, hk, hkm, rfl, hbl, HE⟩ := hrel
    have hsz := hbl.size
    have HBl := hide hbl
    clear hbl
    by_cases hlt : k < l.length
    · by_cases hltm : k < m.length
      · obtain ⟨x, hx⟩ : ∃ x, l[k]? = some x := ⟨_, List.getElem?_eq_getElem hlt⟩
        obtain ⟨b, o, rfl, hb, c1, c2⟩ := (HL.out.below HBl.out hB).get hx
        have hbw : b < wr.heap.size := by omega
        obtain ⟨y, hy⟩ : ∃ y, m[k]? = some y := ⟨_, List.getElem?_eq_getElem hltm⟩
        obtain ⟨b', o', rfl, hb', d1, d2⟩ := (HM.out.below HBl.out hB).get hy
        have hbw' : b' < wr.heap.size := by omega
        have HD := hide (cmpLabs_drop hx hy)
        have HC := hide (lessLab_cmp x y)
        obtain ⟨x1, x2⟩ := x
        obtain ⟨y1, y2⟩ := y
        have C1 := hide (less_any (x1, x2) (y1, y2))
        have C2 := hide (less_any (y1, y2) (x1, x2))
        clear hx hy
        have hsz2 := hsz
        generalize hq : cmpLab (x1, x2) (y1, y2) = q at *
        generalize hp1 : lessLab (x1, x2) (y1, y2) = p1 at *
        generalize hp2 : lessLab (y1, y2) (x1, x2) = p2 at *
        clear hq hp1 hp2
        go_wp2
        as_aux_lemma =>
          go_region_held3 (fun w' => w'.cell? ⟨b, o + k * 2, none⟩ = some (.string x1) ∧ w'.cell? ⟨b, o + k * 2 + 1, none⟩ = some (.string x2) ∧ w'.cell? ⟨b', o' + k * 2, none⟩ = some (.string y1) ∧ w'.cell? ⟨b', o' + k * 2 + 1, none⟩ = some (.string y2)) (go_keep) (first | (go_at_call 104; refine (C1.out _).mono ?_; rintro e w2 ⟨rfl, hb2⟩; have e1 := (Below.cell hb2 (p := ⟨b, o + k * 2, none⟩) (by show b < wr.heap.size; omega)).trans c1; have e2 := (Below.cell hb2 (p := ⟨b, o + k * 2 + 1, none⟩) (by show b < wr.heap.size; omega)).trans c2; have e3 := (Below.cell hb2 (p := ⟨b', o' + k * 2, none⟩) (by show b' < wr.heap.size; omega)).trans d1; have e4 := (Below.cell hb2 (p := ⟨b', o' + k * 2 + 1, none⟩) (by show b' < wr.heap.size; omega)).trans d2))
          all_goals
            have HB2 := hide (HBl.out.drew.trans (hb2.mono (by show w.heap.size ≤ wr.heap.size; omega)))
            have hs2 : wr.heap.size ≤ w2.heap.size := hb2.size
            clear hb2 c1 c2 d1 d2 HBl
            go_wp2
            as_aux_lemma =>
              go_region_held3 (fun w' => w'.cell? ⟨b, o + k * 2, none⟩ = some (.string x1) ∧ w'.cell? ⟨b, o + k * 2 + 1, none⟩ = some (.string x2) ∧ w'.cell? ⟨b', o' + k * 2, none⟩ = some (.string y1) ∧ w'.cell? ⟨b', o' + k * 2 + 1, none⟩ = some (.string y2)) (go_keep) (first | (go_at_call 104; refine (C2.out _).mono ?_; rintro e w3 ⟨rfl, hb3⟩; have g1 := (Below.cell hb3 (p := ⟨b, o + k * 2, none⟩) (by show b < w2.heap.size; omega)).trans e1; have g2 := (Below.cell hb3 (p := ⟨b, o + k * 2 + 1, none⟩) (by show b < w2.heap.size; omega)).trans e2; have g3 := (Below.cell hb3 (p := ⟨b', o' + k * 2, none⟩) (by show b' < w2.heap.size; omega)).trans e3; have g4 := (Below.cell hb3 (p := ⟨b', o' + k * 2 + 1, none⟩) (by show b' < w2.heap.size; omega)).trans e4))
              all_goals
                have HB3 := hide (HB2.out.drew.trans (hb3.mono (by show w.heap.size ≤ w2.heap.size; omega)))
                clear hb3 e1 e2 e3 e4 g1 g2 g3 g4 HB2
                cases p1 with
                | true =>
                  have hq : q = -1 := HC.out.1.1 rfl
                  have HQ : Hid (cmpLabs l m = -1) := by show _ = _; rw [HE.out, HD.out, hq]; rfl
                  clear hq HC HD HE
                  go_wp2
                  go_ret
                  exact ⟨ret_int HQ.out.symm, HB3.out⟩
                | false =>
                  cases p2 with
                  | true =>
                    have hq : q = 1 := HC.out.2.1.1 rfl
                    have HQ : Hid (cmpLabs l m = 1) := by show _ = _; rw [HE.out, HD.out, hq]; rfl
                    clear hq HC HD HE
                    go_wp2
                    go_ret
                    exact ⟨ret_int HQ.out.symm, HB3.out⟩
                  | false =>
                    have hq : q = 0 := by
                      rcases HC.out.2.2 with h | h | h
                      · cases HC.out.1.2 h
                      · exact h
                      · cases HC.out.2.1.2 h
                    have HQ : Hid (cmpLabs l m = cmpLabs (l.drop (k + 1)) (m.drop (k + 1))) := by show _ = _; rw [HE.out, HD.out, hq]; rfl
                    clear hq HC HD HE
                    go_wp2
                    go_roundw
                    case rel => exact ⟨k + 1, by omega, by omega, by go_num, HB3.out, HQ.out⟩
                    case measure => simp [intOf]; omega
      · obtain ⟨x, hx⟩ : ∃ x, l[k]? = some x := ⟨_, List.getElem?_eq_getElem hlt⟩
        have hend : cmpLabs l m = 1 := HE.out.trans (cmpLabs_end1 (by omega) hx)
        have HEnd := hide hend
        clear hx hend HE
        have h1 : ¬ l.length < m.length := by omega
        have h2 : m.length < l.length := by omega
        go_wp2
        go_ret
        exact ⟨ret_int HEnd.out.symm, HBl.out⟩
    · have hend : cmpLabs l m = if l.length < m.length then -1 else 0 := HE.out.trans (cmpLabs_end2 (by omega) (by omega))
      have HEnd := hide hend
      clear hend
      by_cases hlm2 : l.length < m.length
      · rw [if_pos hlm2] at HEnd
        go_wp2
        go_ret
        exact ⟨ret_int HEnd.out.symm, HBl.out⟩
      · rw [if_neg hlm2] at HEnd
        have h2 : ¬ m.length < l.length := by omega
        go_wp2
        go_ret
        exact ⟨ret_int HEnd.out.symm, HBl.out⟩

set_option maxRecDepth 100000 in
set_option maxHeartbeats 400000 in
theorem refWithin_any (B : Nat) (v : Value) (bs : List Ser) (w : World) (hS : BatchAt w B v bs) (hB : B ≤ w.heap.size) (hll : bs.length ≤ 10000000000000) :
    Calls Tryz.prog 50 #[v] w fun e w' => BoolOf e (LimitsOk bs) ∧ Below w.heap.size w w' := by
  obtain ⟨a, c, rfl, _⟩ := id hS
  have HS := hide hS
  clear hS
  by_cases h8 : 8 < bs.length
  · go_enter Tryz.func50, Tryz.ntmps50
    go_wp2
    go_ret
    exact ⟨BoolOf.no (fun h => by have := h.2; omega), Below.refl _ _⟩
  · go_enter Tryz.func50, Tryz.ntmps50
    go_wp2
    go_loopw [3] (fun i wr => ∃ k : Nat, k ≤ bs.length ∧ i = .int .i64 k ∧ Below w.heap.size w wr ∧ Hid (LimTo bs k)) (fun i _ => bs.length - (intOf i).toNat)
    case atStart => exact ⟨0, Nat.zero_le _, rfl, Below.refl _ _, fun i x h => by omega⟩
    case round =>
      obtain ⟨k, hk, rfl, hbl, HR⟩ := hrel
      have hsz := hbl.size
      have HBl := hide hbl
      clear hbl
      by_cases hlt : k < bs.length
      · obtain ⟨⟨y1, y2⟩, hy⟩ : ∃ y, bs[k]? = some y := ⟨_, List.getElem?_eq_getElem hlt⟩
        obtain ⟨b, o, la, lc, sa, sc, rfl, hb, c1, c2, _, _⟩ := (HS.out.below HBl.out hB).get hy
        have hbw : b < wr.heap.size := by omega
        have HY := hide hy
        clear hy
        simp only at c1 c2
        by_cases h1 : 4 < y1.length
        · have hno : ¬ LimitsOk bs := fun h => by have h2 : y1.length ≤ 4 := (h.1 k _ hlt HY.out).1; omega
          have HNo := hide hno
          clear hno HR HY
          go_wp2
          go_ret
          exact ⟨BoolOf.no HNo.out, HBl.out⟩
        · by_cases h2 : 40 < y2.length
          · have hno : ¬ LimitsOk bs := fun h => by have h2 : y2.length ≤ 40 := (h.1 k _ hlt HY.out).2; omega
            have HNo := hide hno
            clear hno HR HY
            go_wp2
            go_ret
            exact ⟨BoolOf.no HNo.out, HBl.out⟩
          · go_wp2
            go_roundw
            case rel => exact ⟨k + 1, by omega, by go_num, HBl.out, HR.out.succ HY.out (by show y1.length ≤ 4; omega) (by show y2.length ≤ 40; omega)⟩
            case measure => simp [intOf]; omega
      · have hke : k = bs.length := by omega
        have HY : Hid (LimTo bs bs.length) := by show LimTo bs bs.length; rw [← hke]; exact HR.out
        clear hke
        go_wp2
        go_ret
        exact ⟨BoolOf.yes ⟨HY.out, by omega⟩, HBl.out⟩
end Go.Proofs.YtamcclcbmenjdaaGreatDoor

/- Plain functions on lists and numbers, and what is true of them: the sum. No program here. -/
namespace Go.Proofs.YtamcclcbmenjdaaGreatDoor.Pl

/-- One bit of CRC-32C, the reversed kind. -/
def crcBit (n : Nat) : Nat := if n % 2 = 1 then (n / 2) ^^^ 2197175160 else n / 2
/-- k bits. -/
def crcIt : Nat → Nat → Nat
  | 0, n => n
  | k + 1, n => crcBit (crcIt k n)
def crcByte (n : Nat) (b : UInt8) : Nat := crcIt 8 (n ^^^ b.toNat)
def crcAll (n : Nat) (l : List UInt8) : Nat := l.foldl crcByte n
def crc (l : List UInt8) : Nat := crcAll 4294967295 l ^^^ 4294967295

theorem crcBit_lt (n : Nat) (h : n < 2 ^ 32) : crcBit n < 2 ^ 32 := by
  unfold crcBit
  split
  · exact Nat.xor_lt_two_pow (by omega) (by decide)
  · omega
theorem crcIt_lt (k n : Nat) (h : n < 2 ^ 32) : crcIt k n < 2 ^ 32 := by
  induction k with
  | zero => exact h
  | succ k ih => exact crcBit_lt _ ih
theorem crcByte_lt (n : Nat) (b : UInt8) (h : n < 2 ^ 32) : crcByte n b < 2 ^ 32 :=
  crcIt_lt _ _ (Nat.xor_lt_two_pow h (by have := b.toNat_lt; omega))
theorem crcAll_lt (l : List UInt8) (n : Nat) (h : n < 2 ^ 32) : crcAll n l < 2 ^ 32 := by
  induction l generalizing n with
  | nil => exact h
  | cons b l ih => exact ih _ (crcByte_lt n b h)
theorem crc_lt (l : List UInt8) : crc l < 2 ^ 32 := Nat.xor_lt_two_pow (crcAll_lt l _ (by decide)) (by decide)
theorem crcAll_snoc (n : Nat) (l : List UInt8) (b : UInt8) : crcAll n (l ++ [b]) = crcByte (crcAll n l) b := by
  simp [crcAll]

theorem bits_xor_u32_nat (a b : Nat) (ha : a < 2 ^ 32) (hb : b < 2 ^ 32) : bits .xor .u32 (a : Int) (b : Int) = ((a ^^^ b : Nat) : Int) := by
  have hx : a ^^^ b < 2 ^ 32 := Nat.xor_lt_two_pow ha hb
  have h1 : (BitVec.ofInt 32 (a : Int)).toNat = a := by
    rw [BitVec.ofInt_natCast, BitVec.toNat_ofNat]; exact Nat.mod_eq_of_lt (by omega)
  have h2 : (BitVec.ofInt 32 (b : Int)).toNat = b := by
    rw [BitVec.ofInt_natCast, BitVec.toNat_ofNat]; exact Nat.mod_eq_of_lt (by omega)
  show IntKind.u32.wrap ((BitVec.ofInt 32 (a : Int) ^^^ BitVec.ofInt 32 (b : Int)).toNat : Int) = _
  rw [BitVec.toNat_xor, h1, h2, IntKind.wrap_u32]
  omega
theorem wraps_u32 (n : Int) (h₀ : 0 ≤ n) (h₁ : n < 2 ^ 32) : IntKind.u32.wrap n = n := by rw [IntKind.wrap_u32]; omega
theorem bits_and1_u32 (a : Nat) (ha : a < 2 ^ 32) : bits .and .u32 (a : Int) 1 = ((a % 2 : Nat) : Int) := by
  have := bits_mask .u32 32 (by decide) wraps_u32 1 (by decide) a (by omega) (by omega)
  simpa using this

/-- A varint, with fuel. -/
def varintF : Nat → Nat → List UInt8
  | 0, n => [UInt8.ofNat n]
  | f + 1, n => if n < 128 then [UInt8.ofNat n] else UInt8.ofNat (n % 128 + 128) :: varintF f (n / 128)
def varint (n : Nat) : List UInt8 := varintF 9 n
theorem varintF_small (f n : Nat) (h : n < 128) : varintF f n = [UInt8.ofNat n] := by
  cases f <;> simp [varintF, h]
theorem varintF_big (f n : Nat) (h : ¬ n < 128) : varintF (f + 1) n = UInt8.ofNat (n % 128 + 128) :: varintF f (n / 128) := by
  simp [varintF, h]
theorem varintF_length (f n : Nat) : (varintF f n).length ≤ f + 1 := by
  induction f generalizing n with
  | zero => simp [varintF]
  | succ f ih => unfold varintF; split <;> simp <;> have := ih (n / 128) <;> omega
theorem varint_length (n : Nat) : (varint n).length ≤ 10 := varintF_length 9 n
theorem u8_ofNat (n : Nat) (h : n < 256) : ((UInt8.ofNat n).toNat : Int) = (n : Int) := by
  simp [UInt8.toNat_ofNat']; omega
theorem wraps_i64 (n : Int) (h₀ : 0 ≤ n) (h₁ : n < 2 ^ 63) : IntKind.i64.wrap n = n := by rw [IntKind.wrap_i64]; omega
theorem and127_i64 (m : Nat) (h : m < 2 ^ 63) : bits .and .i64 (m : Int) 127 = ((m % 128 : Nat) : Int) := by
  have := bits_mask .i64 63 (by decide) wraps_i64 7 (by decide) m (by omega) (by omega)
  simpa using this
theorem or128_i64 (m : Nat) (h : m < 128) : bits .or .i64 (m : Int) 128 = ((m + 128 : Nat) : Int) := by
  have h1 := (bits_nat .i64 63 (by decide) wraps_i64 m 128 (by omega) (by decide)).2
  have h2 : m ||| 128 = m + 128 := by
    have := Nat.two_pow_add_eq_or_of_lt (i := 7) (b := m) (by omega) 1
    rw [Nat.or_comm, Nat.add_comm]; simpa using this.symm
  rw [← h2, ← h1]; rfl

/-- A byte as a cell's value. -/
def B (b : UInt8) : Value := .int .u8 b.toNat
def Bs (l : List UInt8) : List Value := l.map B
theorem Bs_append (a b : List UInt8) : Bs (a ++ b) = Bs a ++ Bs b := by simp [Bs]
theorem Bs_length (a : List UInt8) : (Bs a).length = a.length := by simp [Bs]
end Go.Proofs.YtamcclcbmenjdaaGreatDoor.Pl

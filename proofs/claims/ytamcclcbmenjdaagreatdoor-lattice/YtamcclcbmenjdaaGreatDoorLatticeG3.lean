/- 'choirkeep.Lattice', for any three lists of raw samples: joins do not hang on order, grouping and how often; with bytes and without it is the same. The first form's statement and its card: no condition beside the row's own. -/
import Derived.Test.YtamcclcbmenjdaaGreatDoorLatticeG2
import Derived.Test.YtamcclcbmenjdaaGreatDoorLatticeG1
/- withinLimits, isBatch, Check. -/
namespace Go.Proofs.YtamcclcbmenjdaaGreatDoor
open Go.RowKit Go.Lib

theorem BatchAt.get {w : World} {B : Nat} {a : Option Addr} {n c : Nat} {bs : List Ser} (h : BatchAt w B (.slice a n c) bs) {k : Nat} {x : Ser} (hx : bs[k]? = some x) :
    ∃ b o la lc sa sc, a = some ⟨b, o, none⟩ ∧ b < B ∧ w.cell? ⟨b, o + k * 2, none⟩ = some (.slice la x.1.length lc) ∧ w.cell? ⟨b, o + k * 2 + 1, none⟩ = some (.slice sa x.2.length sc) ∧
      LabelsAt w B (.slice la x.1.length lc) x.1 ∧ SamplesAt w B (.slice sa x.2.length sc) x.2 := by
  obtain ⟨a', c', hv, _, h2⟩ := h
  cases hv
  rcases h2 with h2 | ⟨b, o, ha, hb, hc⟩
  · rw [h2] at hx; cases hx
  · obtain ⟨lv, sv, h1, h2, h3, h4⟩ := hc k x hx
    obtain ⟨la, lc, rfl, _⟩ := id h3
    obtain ⟨sa, sc, rfl, _⟩ := id h4
    exact ⟨b, o, la, lc, sa, sc, ha, hb, h1, h2, h3, h4⟩
theorem BatchAt.below {w w' : World} {B B' : Nat} {v : Value} {bs : List Ser} (h : BatchAt w B v bs) (hb : Below B' w w') (hB : B ≤ B') : BatchAt w' B v bs := h.kept fun k hk => hb.block k (by omega)

def LimTo (bs : List Ser) (k : Nat) : Prop := ∀ i x, i < k → bs[i]? = some x → x.1.length ≤ 4 ∧ x.2.length ≤ 40
def LimitsOk (bs : List Ser) : Prop := LimTo bs bs.length ∧ bs.length ≤ 8
theorem LimTo.succ {bs : List Ser} {k : Nat} {y : Ser} (h : LimTo bs k) (hy : bs[k]? = some y) (h1 : y.1.length ≤ 4) (h2 : y.2.length ≤ 40) : LimTo bs (k + 1) := by
  intro i x hi hx
  by_cases he : i = k
  · subst he; rw [hy] at hx; cases hx; exact ⟨h1, h2⟩
  · exact h i x (by omega) hx

set_option maxRecDepth 100000 in
set_option maxHeartbeats 400000 in
theorem withinLimits_any (B : Nat) (v : Value) (bs : List Ser) (w : World) (hS : BatchAt w B v bs) (hB : B ≤ w.heap.size) (hll : bs.length ≤ 10000000000000) :
    Calls Tryz.prog 102 #[v] w fun e w' => BoolOf e (LimitsOk bs) ∧ Below w.heap.size w w' := by
  obtain ⟨a, c, rfl, _⟩ := id hS
  have HS := hide hS
  clear hS
  go_enter Tryz.func102, Tryz.ntmps102
  go_wp2
  go_loopw [4, 7] (fun _ i wr => ∃ k : Nat, k ≤ bs.length ∧ i = .int .i64 k ∧ Below w.heap.size w wr ∧ Hid (LimTo bs k)) (fun _ i _ => bs.length - (intOf i).toNat)
  case atStart => exact ⟨0, Nat.zero_le _, rfl, Below.refl _ _, fun i x h => by omega⟩
  case round =>
    obtain ⟨k, hk, rfl, hbl, HR⟩ := hrel
    have hsz := hbl.size
    have HBl := hide hbl
    clear hbl
    by_cases hlt : k < bs.length
    · obtain ⟨⟨y1, y2⟩, hy⟩ : ∃ y, bs[k]? = some y := ⟨_, List.getElem?_eq_getElem hlt⟩
      obtain ⟨b, o, la, lc, sa, sc, rfl, hb, c1, c2, _, _⟩ := (HS.out.below HBl.out hB).get hy
      have hbw : b < wr.heap.size := by omega
      have HY := hide hy
      have HBA := hide (HBl.out.alloc hsz (.cells #[.slice la y1.length lc, .slice sa y2.length sc] 38))
      clear hy
      simp only at c1 c2
      by_cases h1 : 4 < y1.length
      · have hno : ¬ LimitsOk bs := fun h => by have h2 : y1.length ≤ 4 := (h.1 k _ hlt HY.out).1; omega
        have HNo := hide hno
        clear hno HR HY
        go_wp2
        go_ret
        exact ⟨BoolOf.no HNo.out, HBA.out⟩
      · by_cases h2 : 40 < y2.length
        · have hno : ¬ LimitsOk bs := fun h => by have h2 : y2.length ≤ 40 := (h.1 k _ hlt HY.out).2; omega
          have HNo := hide hno
          clear hno HR HY
          go_wp2
          go_ret
          exact ⟨BoolOf.no HNo.out, HBA.out⟩
        · go_wp2
          go_roundw
          case rel => exact ⟨k + 1, by omega, by go_num, HBA.out, HR.out.succ HY.out (by show y1.length ≤ 4; omega) (by show y2.length ≤ 40; omega)⟩
          case measure => simp [intOf]; omega
    · have hke : k = bs.length := by omega
      have HY : Hid (LimTo bs bs.length) := by show LimTo bs bs.length; rw [← hke]; exact HR.out
      clear hke
      by_cases h8 : bs.length ≤ 8
      · have h8b : decide ((bs.length : Int) ≤ 8) = true := by simp; omega
        go_wp2
        go_ret
        exact ⟨BoolOf.yes ⟨HY.out, h8⟩, HBl.out⟩
      · have h8b : decide ((bs.length : Int) ≤ 8) = false := by simp; omega
        go_wp2
        go_ret
        exact ⟨BoolOf.no fun h => h8 h.2, HBl.out⟩

def BatTo (bs : List Ser) (k : Nat) : Prop := (∀ i x, i < k → bs[i]? = some x → LabelsOk x.1 ∧ SamplesOk x.2) ∧ ∀ i x y, i + 1 < k → bs[i]? = some x → bs[i + 1]? = some y → cmpLabs x.1 y.1 < 0
def BatchOk (bs : List Ser) : Prop := BatTo bs bs.length
theorem BatTo.one {bs : List Ser} {y : Ser} (_ : BatTo bs 0) (hy : bs[0]? = some y) (h1 : LabelsOk y.1) (h2 : SamplesOk y.2) : BatTo bs 1 := by
  refine ⟨fun i x hi hx => ?_, fun i x y h => by omega⟩
  obtain rfl : i = 0 := by omega
  rw [hy] at hx; cases hx; exact ⟨h1, h2⟩
theorem BatTo.succ {bs : List Ser} {k : Nat} {x y : Ser} (h : BatTo bs (k + 1)) (hx : bs[k]? = some x) (hy : bs[k + 1]? = some y) (h1 : LabelsOk y.1) (h2 : SamplesOk y.2) (hlt : cmpLabs x.1 y.1 < 0) : BatTo bs (k + 2) := by
  refine ⟨fun i u hi hu => ?_, fun i u v hi hu hv => ?_⟩
  · by_cases he : i = k + 1
    · subst he; rw [hy] at hu; cases hu; exact ⟨h1, h2⟩
    · exact h.1 i u (by omega) hu
  · by_cases he : i = k
    · subst he
      rw [hx] at hu; rw [hy] at hv
      cases hu; cases hv; exact hlt
    · exact h.2 i u v (by omega) hu hv

/-- What a batch that may be none is bounded by, so that no count wraps. -/
structure Small (bs : List Ser) : Prop where
  series : bs.length ≤ 10000000000000
  labels : ∀ s ∈ bs, s.1.length ≤ 10000000000000
  samples : ∀ s ∈ bs, s.2.length ≤ 10000000000000

set_option maxRecDepth 100000 in
set_option maxHeartbeats 400000 in
theorem isBatch_any (B : Nat) (v : Value) (bs : List Ser) (w : World) (hS : BatchAt w B v bs) (hB : B ≤ w.heap.size) (hsm : Small bs) :
    Calls Tryz.prog 101 #[v] w fun e w' => BoolOf e (BatchOk bs) ∧ Below w.heap.size w w' := by
  obtain ⟨a, c, rfl, _⟩ := id hS
  have HS := hide hS
  have hll := hsm.series
  have HSm := hide hsm
  clear hS hsm
  go_enter Tryz.func101, Tryz.ntmps101
  go_wp2
  go_loopw [3, 4, 7] (fun _ _ i wr => ∃ k : Nat, k ≤ bs.length ∧ i = .int .i64 k ∧ Below w.heap.size w wr ∧ Hid (BatTo bs k)) (fun _ _ i _ => bs.length - (intOf i).toNat)
  case atStart => exact ⟨0, Nat.zero_le _, rfl, Below.refl _ _, ⟨fun i x h => by omega, fun i x y h => by omega⟩⟩
  case round =>
    obtain ⟨k, hk, rfl, hbl, HR⟩ := hrel
    have hsz := hbl.size
    have HBl := hide hbl
    clear hbl
    by_cases hlt : k < bs.length
    · obtain ⟨⟨y1, y2⟩, hy⟩ : ∃ y, bs[k]? = some y := ⟨_, List.getElem?_eq_getElem hlt⟩
      have KS := HS.out.below HBl.out hB
      obtain ⟨b, o, la, lc, sa, sc, rfl, hb, c1, c2, hLa, hSa⟩ := KS.get hy
      have hbw : b < wr.heap.size := by omega
      have hym := List.mem_of_getElem? hy
      have hl1 : y1.length ≤ 10000000000000 := HSm.out.labels _ hym
      have hl2 : y2.length ≤ 10000000000000 := HSm.out.samples _ hym
      have HY := hide hy
      obtain ⟨W, hW⟩ : ∃ W, W = wr.alloc (.cells #[.slice la y1.length lc, .slice sa y2.length sc] 38) := ⟨_, rfl⟩
      have hWk : ∀ q, q < wr.heap.size → W.heap[q]? = wr.heap[q]? := fun q hq => by rw [hW]; exact heap_alloc_old wr _ hq
      have hWs : W.heap.size = wr.heap.size + 1 := by rw [hW]; simp
      have HBW : Hid (Below w.heap.size w W) := by rw [hW]; exact HBl.out.alloc hsz _
      have n0 : W.cell? ⟨wr.heap.size, 0, none⟩ = some (.slice la y1.length lc) := by rw [hW]; exact World.cell?_alloc_new _ _ _ 0
      have n1 : W.cell? ⟨wr.heap.size, 1, none⟩ = some (.slice sa y2.length sc) := by rw [hW]; exact World.cell?_alloc_new _ _ _ 1
      have KW : BatchAt W B (.slice (some ⟨b, o, none⟩) bs.length c) bs := KS.kept fun q hq => hWk q (by omega)
      have C1 := hide (areLabels_any B _ y1 W (hLa.kept fun q hq => hWk q (by omega)) (by omega) (by omega))
      have hSW : SamplesAt W B (.slice sa y2.length sc) y2 := hSa.kept fun q hq => hWk q (by omega)
      have hLW : LabelsAt W B (.slice la y1.length lc) y1 := hLa.kept fun q hq => hWk q (by omega)
      have HSW := hide hSW
      have HLW := hide hLW
      have HKW := hide KW
      have HW := hide hW
      clear hy hym KS hLa hSa hWk KW hSW hLW hW
      simp only at c1 c2
      go_wp2_with fail
      rw [← HW.out]
      refine C1.out.mono ?_
      rintro e w2 ⟨⟨r1, rfl, hr1⟩, hb2⟩
      cases r1 with
      | false =>
        have hno : ¬ BatchOk bs := fun h => by have := hr1.2 (h.1 k _ hlt HY.out).1; cases this
        have HNo := hide hno
        have HB2 := hide (HBW.out.trans (hb2.mono (by omega)))
        clear hno HR HY hb2 hr1
        go_wp2
        go_ret
        exact ⟨BoolOf.no HNo.out, HB2.out⟩
      | true =>
        have HR1 := hide (hr1.1 rfl)
        have p0 : w2.cell? ⟨wr.heap.size, 0, none⟩ = some (.slice la y1.length lc) := (hb2.cell (p := ⟨wr.heap.size, 0, none⟩) (by show wr.heap.size < W.heap.size; omega)).trans n0
        have p1 : w2.cell? ⟨wr.heap.size, 1, none⟩ = some (.slice sa y2.length sc) := (hb2.cell (p := ⟨wr.heap.size, 1, none⟩) (by show wr.heap.size < W.heap.size; omega)).trans n1
        have C2 := hide (areSamples_any B _ y2 w2 (HSW.out.below hb2 (by omega)) (by have := hb2.size; omega) (by omega))
        have HB2 := hide hb2
        clear hb2 hr1 C1
        go_wp2_with fail
        refine C2.out.mono ?_
        rintro e w3 ⟨⟨r2, rfl, hr2⟩, hb3⟩
        cases r2 with
        | false =>
          have hno : ¬ BatchOk bs := fun h => by have := hr2.2 (h.1 k _ hlt HY.out).2; cases this
          have HNo := hide hno
          have HB3 := hide ((HBW.out.trans (HB2.out.mono (by omega))).trans (hb3.mono (by have := HB2.out.size; omega)))
          clear hno HR HY hb3 hr2
          go_wp2
          go_ret
          exact ⟨BoolOf.no HNo.out, HB3.out⟩
        | true =>
          have HR2 := hide (hr2.1 rfl)
          have HB3 := hide (HB2.out.trans (hb3.mono HB2.out.size))
          have q0 : w3.cell? ⟨wr.heap.size, 0, none⟩ = some (.slice la y1.length lc) := (HB3.out.cell (p := ⟨wr.heap.size, 0, none⟩) (by show wr.heap.size < W.heap.size; omega)).trans n0
          have HBA := hide (HBW.out.trans (HB3.out.mono (by omega)))
          have hs3 : W.heap.size ≤ w3.heap.size := HB3.out.size
          clear hb3 hr2 C2 p0 p1 HB2
          cases k with
          | zero =>
            go_wp2
            go_quiet (fail)
            go_wp2
            go_roundw
            case rel => exact ⟨1, by omega, by go_num, below_drewN HBA.out _, HR.out.one HY.out HR1.out HR2.out⟩
            case measure => simp [intOf]; omega
          | succ j =>
            obtain ⟨⟨x1, x2⟩, hx⟩ : ∃ x, bs[j]? = some x := ⟨_, List.getElem?_eq_getElem (by omega)⟩
            have K3 := HKW.out.below HB3.out (by omega)
            obtain ⟨b2, o2, la2, lc2, sa2, sc2, hh2, hb2, d1, _, hL2, _⟩ := K3.get hx
            cases hh2
            have C := hide (compareFunc_any B _ _ x1 y1 w3.drew (hL2.kept fun _ _ => rfl) ((HLW.out.below HB3.out (by omega)).kept fun _ _ => rfl) (by show B ≤ w3.heap.size; omega) (HSm.out.labels _ (List.mem_of_getElem? hx)))
            have HX := hide hx
            have hbw3 : b < w3.heap.size := by omega
            clear hx K3 hL2
            simp only at d1
            have hj0 : (0 : Int) < ((j + 1 : Nat) : Int) := by omega
            have hj1 : (j : Int) < (bs.length : Int) := by omega
            have hj2 : (0 : Int) ≤ (j : Int) := by omega
            have hjw : IntKind.i64.wrap (j : Int) = (j : Int) := by rw [IntKind.wrap_i64]; omega
            have hjw2 : IntKind.i64.wrap (((j + 1 : Nat) : Int) - 1) = (j : Int) := by rw [IntKind.wrap_i64]; omega
            have hwr3 : wr.heap.size < w3.heap.size := by omega
            generalize hcq : cmpLabs x1 y1 = q at *
            have HQ : Hid (cmpLabs x1 y1 = q) := hcq
            clear hcq
            by_cases hc : 0 ≤ q
            · have hno : ¬ BatchOk bs := fun h => by have h2 : cmpLabs x1 y1 < 0 := h.2 j _ _ (by omega) HX.out HY.out; rw [HQ.out] at h2; omega
              have HNo := hide hno
              clear hno HR HY HX
              go_wp2
              as_aux_lemma =>
                go_region_held3 (fun w' => w'.cell? ⟨b, o + j * 2, none⟩ = some (.slice la2 x1.length lc2) ∧ w'.cell? ⟨wr.heap.size, 0, none⟩ = some (.slice la y1.length lc)) (go_keep) (first | (go_at_call 129; refine C.out.mono ?_; rintro e w4 ⟨rfl, hb4⟩; have e1 := (hb4.cell (p := ⟨b, o + j * 2, none⟩) (by show b < w3.heap.size; omega)).trans d1; have e2 := (hb4.cell (p := ⟨wr.heap.size, 0, none⟩) (by show wr.heap.size < w3.heap.size; omega)).trans q0))
                all_goals
                  have HB4 := hide (HBA.out.drew.trans (hb4.mono (by show w.heap.size ≤ w3.heap.size; omega)))
                  clear hb4 e1 e2
                  go_wp2
                  go_ret
                  exact ⟨BoolOf.no HNo.out, HB4.out⟩
            · have hcd : decide (0 ≤ q) = false := decide_eq_false hc
              have HR3 := hide (HR.out.succ HX.out HY.out HR1.out HR2.out (by show cmpLabs x1 y1 < 0; rw [HQ.out]; omega))
              clear HR HY HX
              go_wp2
              as_aux_lemma =>
                go_region_held3 (fun w' => w'.cell? ⟨b, o + j * 2, none⟩ = some (.slice la2 x1.length lc2) ∧ w'.cell? ⟨wr.heap.size, 0, none⟩ = some (.slice la y1.length lc)) (go_keep) (first | (go_at_call 129; refine C.out.mono ?_; rintro e w4 ⟨rfl, hb4⟩; have e1 := (hb4.cell (p := ⟨b, o + j * 2, none⟩) (by show b < w3.heap.size; omega)).trans d1; have e2 := (hb4.cell (p := ⟨wr.heap.size, 0, none⟩) (by show wr.heap.size < w3.heap.size; omega)).trans q0))
                all_goals
                  have HB4 := hide (HBA.out.drew.trans (hb4.mono (by show w.heap.size ≤ w3.heap.size; omega)))
                  clear hb4 e1 e2
                  go_wp2
                  go_roundw
                  case rel => exact ⟨j + 2, by omega, by go_num, HB4.out, HR3.out⟩
                  case measure => simp [intOf]; omega
    · have hke : k = bs.length := by omega
      have HY : Hid (BatchOk bs) := by show BatTo bs bs.length; rw [← hke]; exact HR.out
      clear hke
      go_wp2
      go_ret
      exact ⟨BoolOf.yes HY.out, HBl.out⟩
end Go.Proofs.YtamcclcbmenjdaaGreatDoor

/- The reference: less, Order, Within. -/
namespace Go.Proofs.YtamcclcbmenjdaaGreatDoor
open Go.RowKit Go.Lib

theorem bl_cmp : ∀ (x y : List UInt8), (Op.bytesLess x y = true ↔ Lib.compareBytes x y = -1) ∧ (x = y ↔ Lib.compareBytes x y = 0) ∧ (Lib.compareBytes x y = -1 ∨ Lib.compareBytes x y = 0 ∨ Lib.compareBytes x y = 1) ∧ Lib.compareBytes y x = - Lib.compareBytes x y
  | [], [] => by simp [Op.bytesLess, Lib.compareBytes]
  | [], _ :: _ => by simp [Op.bytesLess, Lib.compareBytes]
  | _ :: _, [] => by simp [Op.bytesLess, Lib.compareBytes]
  | a :: r, b :: q => by
    have ih := bl_cmp r q
    by_cases hab : a = b
    · subst hab
      simpa [Op.bytesLess, Lib.compareBytes] using ih
    · by_cases hlt : a < b
      · have hlt2 : ¬ b < a := fun h => absurd (UInt8.lt_trans hlt h) (UInt8.lt_irrefl _)
        simp [Op.bytesLess, Lib.compareBytes, hab, hlt, hlt2]
      · have hlt2 : b < a := by rcases UInt8.lt_or_lt_of_ne hab with h | h; exact absurd h hlt; exact h
        simp [Op.bytesLess, Lib.compareBytes, hab, hlt, hlt2]

/-- Is a label ahead of another? -/
def lessLab (x y : Lab) : Bool := Op.bytesLess x.1.toList y.1.toList || (x.1.toList == y.1.toList && Op.bytesLess x.2.toList y.2.toList)

theorem toList_data (a : ByteArray) : a.toList = a.data.toList := ByteArray.toList_eq a
theorem lessLab_cmp (x y : Lab) : (lessLab x y = true ↔ cmpLab x y = -1) ∧ (lessLab y x = true ↔ cmpLab x y = 1) ∧ (cmpLab x y = -1 ∨ cmpLab x y = 0 ∨ cmpLab x y = 1) := by
  have h1 := bl_cmp x.1.data.toList y.1.data.toList
  have h2 := bl_cmp x.2.data.toList y.2.data.toList
  have h3 := bl_cmp y.1.data.toList x.1.data.toList
  have h4 := bl_cmp y.2.data.toList x.2.data.toList
  unfold lessLab cmpLab cmpB
  simp only [toList_data, Bool.or_eq_true, Bool.and_eq_true, beq_iff_eq, h1.1, h2.1, h3.1, h4.1]
  rw [h1.2.1, h3.2.1, h1.2.2.2, h2.2.2.2]
  have a1 := h1.2.2.1
  have a2 := h2.2.2.1
  generalize Lib.compareBytes x.1.data.toList y.1.data.toList = p at *
  generalize Lib.compareBytes x.2.data.toList y.2.data.toList = q at *
  clear h1 h2 h3 h4
  split <;> omega

set_option maxRecDepth 100000 in
set_option maxHeartbeats 400000 in
theorem less_any (x y : Lab) (w : World) :
    Calls Tryz.prog 104 #[.agg #[.string x.1, .string x.2], .agg #[.string y.1, .string y.2]] w fun e w' => e = .returned (.bool (lessLab x y)) ∧ Below w.heap.size w w' := by
  obtain ⟨a, b⟩ := x
  obtain ⟨c, d⟩ := y
  have HL : Hid (lessLab (a, b) (c, d) = (Op.bytesLess a.toList c.toList || (a.toList == c.toList && Op.bytesLess b.toList d.toList))) := rfl
  cases h1 : Op.bytesLess a.toList c.toList with
  | true =>
    go_enter Tryz.func104, Tryz.ntmps104
    go_wp2
    go_ret
    exact ⟨by rw [HL.out, h1]; rfl, (((Below.refl _ _).alloc (Nat.le_refl _) _).alloc (by simp) _)⟩
  | false =>
    cases h2 : a.toList == c.toList with
    | true =>
      go_enter Tryz.func104, Tryz.ntmps104
      go_wp2
      go_ret
      exact ⟨by rw [HL.out, h1, h2]; rfl, (((Below.refl _ _).alloc (Nat.le_refl _) _).alloc (by simp) _)⟩
    | false =>
      go_enter Tryz.func104, Tryz.ntmps104
      go_wp2
      go_ret
      exact ⟨by rw [HL.out, h1, h2]; rfl, (((Below.refl _ _).alloc (Nat.le_refl _) _).alloc (by simp) _)⟩

set_option maxRecDepth 100000 in
set_option maxHeartbeats 400000 in
theorem refOrder_any (B : Nat) (u v : Value) (l m : List Lab) (w : World) (hl : LabelsAt w B u l) (hm : LabelsAt w B v m) (hB : B ≤ w.heap.size) (hll : l.length ≤ 10000000000000) :
    Calls Tryz.prog 74 #[u, v] w fun e w' => e = .returned (.int .i64 (cmpLabs l m)) ∧ Below w.heap.size w w' := by
  obtain ⟨la, lc, rfl, _⟩ := id hl
  obtain ⟨ma, mc, rfl, _⟩ := id hm
  have HL := hide hl
  have HM := hide hm
  clear hl hm
  go_enter Tryz.func74, Tryz.ntmps74
  go_wp2
  go_loopw [5, 6, 7] (fun i _ _ wr => ∃ k : Nat, k ≤ l.length ∧ k ≤ m.length ∧ i = .int .i64 k ∧ Below w.heap.size w wr ∧ Hid (cmpLabs l m = cmpLabs (l.drop k) (m.drop k))) (fun i _ _ _ => l.length - (intOf i).toNat)
  case atStart => exact ⟨0, Nat.zero_le _, Nat.zero_le _, rfl, Below.refl _ _, rfl⟩
  case round =>
    obtain ⟨k, hk, hkm, rfl, hbl, HE⟩ := hrel
    have hsz := hbl.size
    have HBl := hide hbl
    clear hbl
    by_cases hlt : k < l.length
    · by_cases hltm : k < m.length
      · obtain ⟨x, hx⟩ : ∃ x, l[k]? = some x := ⟨_, List.getElem?_eq_getElem hlt⟩
        obtain ⟨b, o, rfl, hb, c1, c2⟩ := (HL.out.below HBl.out hB).get hx
        have hbw : b < wr.heap.size := by omega
        obtain ⟨y, hy⟩ : ∃ y, m[k]? = some y := ⟨_, List.getElem?_eq_getElem hltm⟩
        obtain ⟨b', o', rfl, hb', d1, d2⟩ := (HM.out.below HBl.out hB).get hy
        have hbw' : b' < wr.heap.size := by omega
        have HD := hide (cmpLabs_drop hx hy)
        have HC := hide (lessLab_cmp x y)
        obtain ⟨x1, x2⟩ := x
        obtain ⟨y1, y2⟩ := y
        have C1 := hide (less_any (x1, x2) (y1, y2))
        have C2 := hide (less_any (y1, y2) (x1, x2))
        clear hx hy
        have hsz2 := hsz
        generalize hq : cmpLab (x1, x2) (y1, y2) = q at *
        generalize hp1 : lessLab (x1, x2) (y1, y2) = p1 at *
        generalize hp2 : lessLab (y1, y2) (x1, x2) = p2 at *
        clear hq hp1 hp2
        go_wp2
        as_aux_lemma =>
          go_region_held3 (fun w' => w'.cell? ⟨b, o + k * 2, none⟩ = some (.string x1) ∧ w'.cell? ⟨b, o + k * 2 + 1, none⟩ = some (.string x2) ∧ w'.cell? ⟨b', o' + k * 2, none⟩ = some (.string y1) ∧ w'.cell? ⟨b', o' + k * 2 + 1, none⟩ = some (.string y2)) (go_keep) (first | (go_at_call 104; refine (C1.out _).mono ?_; rintro e w2 ⟨rfl, hb2⟩; have e1 := (Below.cell hb2 (p := ⟨b, o + k * 2, none⟩) (by show b < wr.heap.size; omega)).trans c1; have e2 := (Below.cell hb2 (p := ⟨b, o + k * 2 + 1, none⟩) (by show b < wr.heap.size; omega)).trans c2; have e3 := (Below.cell hb2 (p := ⟨b', o' + k * 2, none⟩) (by show b' < wr.heap.size; omega)).trans d1; have e4 := (Below.cell hb2 (p := ⟨b', o' + k * 2 + 1, none⟩) (by show b' < wr.heap.size; omega)).trans d2))
          all_goals
            have HB2 := hide (HBl.out.drew.trans (hb2.mono (by show w.heap.size ≤ wr.heap.size; omega)))
            have hs2 : wr.heap.size ≤ w2.heap.size := hb2.size
            clear hb2 c1 c2 d1 d2 HBl
            go_wp2
            as_aux_lemma =>
              go_region_held3 (fun w' => w'.cell? ⟨b, o + k * 2, none⟩ = some (.string x1) ∧ w'.cell? ⟨b, o + k * 2 + 1, none⟩ = some (.string x2) ∧ w'.cell? ⟨b', o' + k * 2, none⟩ = some (.string y1) ∧ w'.cell? ⟨b', o' + k * 2 + 1, none⟩ = some (.string y2)) (go_keep) (first | (go_at_call 104; refine (C2.out _).mono ?_; rintro e w3 ⟨rfl, hb3⟩; have g1 := (Below.cell hb3 (p := ⟨b, o + k * 2, none⟩) (by show b < w2.heap.size; omega)).trans e1; have g2 := (Below.cell hb3 (p := ⟨b, o + k * 2 + 1, none⟩) (by show b < w2.heap.size; omega)).trans e2; have g3 := (Below.cell hb3 (p := ⟨b', o' + k * 2, none⟩) (by show b' < w2.heap.size; omega)).trans e3; have g4 := (Below.cell hb3 (p := ⟨b', o' + k * 2 + 1, none⟩) (by show b' < w2.heap.size; omega)).trans e4))
              all_goals
                have HB3 := hide (HB2.out.drew.trans (hb3.mono (by show w.heap.size ≤ w2.heap.size; omega)))
                clear hb3 e1 e2 e3 e4 g1 g2 g3 g4 HB2
                cases p1 with
                | true =>
                  have hq : q = -1 := HC.out.1.1 rfl
                  have HQ : Hid (cmpLabs l m = -1) := by show _ = _; rw [HE.out, HD.out, hq]; rfl
                  clear hq HC HD HE
                  go_wp2
                  go_ret
                  exact ⟨ret_int HQ.out.symm, HB3.out⟩
                | false =>
                  cases p2 with
                  | true =>
                    have hq : q = 1 := HC.out.2.1.1 rfl
                    have HQ : Hid (cmpLabs l m = 1) := by show _ = _; rw [HE.out, HD.out, hq]; rfl
                    clear hq HC HD HE
                    go_wp2
                    go_ret
                    exact ⟨ret_int HQ.out.symm, HB3.out⟩
                  | false =>
                    have hq : q = 0 := by
                      rcases HC.out.2.2 with h | h | h
                      · cases HC.out.1.2 h
                      · exact h
                      · cases HC.out.2.1.2 h
                    have HQ : Hid (cmpLabs l m = cmpLabs (l.drop (k + 1)) (m.drop (k + 1))) := by show _ = _; rw [HE.out, HD.out, hq]; rfl
                    clear hq HC HD HE
                    go_wp2
                    go_roundw
                    case rel => exact ⟨k + 1, by omega, by omega, by go_num, HB3.out, HQ.out⟩
                    case measure => simp [intOf]; omega
      · obtain ⟨x, hx⟩ : ∃ x, l[k]? = some x := ⟨_, List.getElem?_eq_getElem hlt⟩
        have hend : cmpLabs l m = 1 := HE.out.trans (cmpLabs_end1 (by omega) hx)
        have HEnd := hide hend
        clear hx hend HE
        have h1 : ¬ l.length < m.length := by omega
        have h2 : m.length < l.length := by omega
        go_wp2
        go_ret
        exact ⟨ret_int HEnd.out.symm, HBl.out⟩
    · have hend : cmpLabs l m = if l.length < m.length then -1 else 0 := HE.out.trans (cmpLabs_end2 (by omega) (by omega))
      have HEnd := hide hend
      clear hend
      by_cases hlm2 : l.length < m.length
      · rw [if_pos hlm2] at HEnd
        go_wp2
        go_ret
        exact ⟨ret_int HEnd.out.symm, HBl.out⟩
      · rw [if_neg hlm2] at HEnd
        have h2 : ¬ m.length < l.length := by omega
        go_wp2
        go_ret
        exact ⟨ret_int HEnd.out.symm, HBl.out⟩

set_option maxRecDepth 100000 in
set_option maxHeartbeats 400000 in
theorem refWithin_any (B : Nat) (v : Value) (bs : List Ser) (w : World) (hS : BatchAt w B v bs) (hB : B ≤ w.heap.size) (hll : bs.length ≤ 10000000000000) :
    Calls Tryz.prog 50 #[v] w fun e w' => BoolOf e (LimitsOk bs) ∧ Below w.heap.size w w' := by
  obtain ⟨a, c, rfl, _⟩ := id hS
  have HS := hide hS
  clear hS
  by_cases h8 : 8 < bs.length
  · go_enter Tryz.func50, Tryz.ntmps50
    go_wp2
    go_ret
    exact ⟨BoolOf.no (fun h => by have := h.2; omega), Below.refl _ _⟩
  · go_enter Tryz.func50, Tryz.ntmps50
    go_wp2
    go_loopw [3] (fun i wr => ∃ k : Nat, k ≤ bs.length ∧ i = .int .i64 k ∧ Below w.heap.size w wr ∧ Hid (LimTo bs k)) (fun i _ => bs.length - (intOf i).toNat)
    case atStart => exact ⟨0, Nat.zero_le _, rfl, Below.refl _ _, fun i x h => by omega⟩
    case round =>
      obtain ⟨k, hk, rfl, hbl, HR⟩ := hrel
      have hsz := hbl.size
      have HBl := hide hbl
      clear hbl
      by_cases hlt : k < bs.length
      · obtain ⟨⟨y1, y2⟩, hy⟩ : ∃ y, bs[k]? = some y := ⟨_, List.getElem?_eq_getElem hlt⟩
        obtain ⟨b, o, la, lc, sa, sc, rfl, hb, c1, c2, _, _⟩ := (HS.out.below HBl.out hB).get hy
        have hbw : b < wr.heap.size := by omega
        have HY := hide hy
        clear hy
        simp only at c1 c2
        by_cases h1 : 4 < y1.length
        · have hno : ¬ LimitsOk bs := fun h => by have h2 : y1.length ≤ 4 := (h.1 k _ hlt HY.out).1; omega
          have HNo := hide hno
          clear hno HR HY
          go_wp2
          go_ret
          exact ⟨BoolOf.no HNo.out, HBl.out⟩
        · by_cases h2 : 40 < y2.length
          · have hno : ¬ LimitsOk bs := fun h => by have h2 : y2.length ≤ 40 := (h.1 k _ hlt HY.out).2; omega
            have HNo := hide hno
            clear hno HR HY
            go_wp2
            go_ret
            exact ⟨BoolOf.no HNo.out, HBl.out⟩
          · go_wp2
            go_roundw
            case rel => exact ⟨k + 1, by omega, by go_num, HBl.out, HR.out.succ HY.out (by show y1.length ≤ 4; omega) (by show y2.length ≤ 40; omega)⟩
            case measure => simp [intOf]; omega
      · have hke : k = bs.length := by omega
        have HY : Hid (LimTo bs bs.length) := by show LimTo bs bs.length; rw [← hke]; exact HR.out
        clear hke
        go_wp2
        go_ret
        exact ⟨BoolOf.yes ⟨HY.out, by omega⟩, HBl.out⟩
end Go.Proofs.YtamcclcbmenjdaaGreatDoor

/- The join of batches, pure: the order of labels, what a batch holds, and that this tells it. -/
namespace Go.Proofs.YtamcclcbmenjdaaGreatDoor
open Go.RowKit Go.Lib

/- The order of labels. -/
theorem cmpB_lt (x y : ByteArray) : cmpB x y = -1 ↔ TLt x y := by
  unfold cmpB TLt
  rw [← (bl_cmp _ _).1, less_eq]; simp
theorem cmpB_zero (x y : ByteArray) : cmpB x y = 0 ↔ x = y := by
  unfold cmpB
  rw [← (bl_cmp _ _).2.1]
  exact ⟨fun h => ByteArray.ext (Array.ext' h), fun h => by rw [h]⟩
theorem cmpB_three (x y : ByteArray) : cmpB x y = -1 ∨ cmpB x y = 0 ∨ cmpB x y = 1 := (bl_cmp _ _).2.2.1
theorem cmpB_neg (x y : ByteArray) : cmpB y x = - cmpB x y := (bl_cmp _ _).2.2.2
theorem cmpB_trans {x y z : ByteArray} (h : cmpB x y = -1) (g : cmpB y z = -1) : cmpB x z = -1 :=
  (cmpB_lt x z).2 (ttrans ((cmpB_lt x y).1 h) ((cmpB_lt y z).1 g))

theorem cmpLab_three (x y : Lab) : cmpLab x y = -1 ∨ cmpLab x y = 0 ∨ cmpLab x y = 1 := by
  unfold cmpLab; split
  · exact cmpB_three _ _
  · exact cmpB_three _ _
theorem cmpLab_neg (x y : Lab) : cmpLab y x = - cmpLab x y := by
  unfold cmpLab
  rw [cmpB_neg x.1 y.1, cmpB_neg x.2 y.2]
  split <;> split <;> omega
theorem cmpLab_zero (x y : Lab) : cmpLab x y = 0 ↔ x = y := by
  unfold cmpLab
  have h1 := cmpB_zero x.1 y.1
  have h2 := cmpB_zero x.2 y.2
  constructor
  · intro h
    by_cases e : cmpB x.1 y.1 = 0
    · rw [if_pos e] at h
      exact Prod.ext (h1.1 e) (h2.1 h)
    · rw [if_neg e] at h; exact absurd h e
  · rintro rfl
    rw [if_pos (h1.2 rfl)]; exact h2.2 rfl
theorem cmpLab_trans {x y z : Lab} (h : cmpLab x y = -1) (g : cmpLab y z = -1) : cmpLab x z = -1 := by
  unfold cmpLab at h g ⊢
  by_cases e1 : cmpB x.1 y.1 = 0
  · rw [if_pos e1] at h
    have k1 := (cmpB_zero _ _).1 e1
    by_cases e2 : cmpB y.1 z.1 = 0
    · rw [if_pos e2] at g
      have k2 := (cmpB_zero _ _).1 e2
      rw [if_pos ((cmpB_zero _ _).2 (k1.trans k2))]
      exact cmpB_trans h g
    · rw [if_neg e2] at g
      rw [k1, if_neg e2]; exact g
  · rw [if_neg e1] at h
    by_cases e2 : cmpB y.1 z.1 = 0
    · have k2 := (cmpB_zero _ _).1 e2
      rw [← k2, if_neg e1]; exact h
    · rw [if_neg e2] at g
      have := cmpB_trans h g
      rw [if_neg (by omega)]; exact this

theorem cmpLabs_three : ∀ (x y : List Lab), cmpLabs x y = -1 ∨ cmpLabs x y = 0 ∨ cmpLabs x y = 1
  | [], [] => by simp [cmpLabs]
  | [], _ :: _ => by simp [cmpLabs]
  | _ :: _, [] => by simp [cmpLabs]
  | a :: r, b :: q => by
    rw [cmpLabs]; split
    · exact cmpLabs_three r q
    · exact cmpLab_three a b
theorem cmpLabs_neg : ∀ (x y : List Lab), cmpLabs y x = - cmpLabs x y
  | [], [] => by simp [cmpLabs]
  | [], _ :: _ => by simp [cmpLabs]
  | _ :: _, [] => by simp [cmpLabs]
  | a :: r, b :: q => by
    rw [cmpLabs, cmpLabs, cmpLab_neg a b, cmpLabs_neg r q]
    split <;> split <;> omega
theorem cmpLabs_zero : ∀ (x y : List Lab), cmpLabs x y = 0 ↔ x = y
  | [], [] => by simp [cmpLabs]
  | [], _ :: _ => by simp [cmpLabs]
  | _ :: _, [] => by simp [cmpLabs]
  | a :: r, b :: q => by
    rw [cmpLabs]
    constructor
    · intro h
      by_cases e : cmpLab a b = 0
      · rw [if_pos e] at h
        rw [(cmpLab_zero a b).1 e, (cmpLabs_zero r q).1 h]
      · rw [if_neg e] at h; exact absurd h e
    · intro h
      obtain ⟨rfl, rfl⟩ := List.cons.inj h
      rw [if_pos ((cmpLab_zero a a).2 rfl)]; exact (cmpLabs_zero r r).2 rfl
theorem cmpLabs_trans : ∀ {x y z : List Lab}, cmpLabs x y = -1 → cmpLabs y z = -1 → cmpLabs x z = -1
  | [], _, [], h, g => by
    rename_i y
    cases y <;> simp [cmpLabs] at h g
  | [], _, _ :: _, _, _ => rfl
  | _ :: _, [], _, h, _ => by simp [cmpLabs] at h
  | _ :: _, _ :: _, [], _, g => by simp [cmpLabs] at g
  | a :: r, b :: q, c :: s, h, g => by
    rw [cmpLabs] at h g ⊢
    by_cases e1 : cmpLab a b = 0
    · rw [if_pos e1] at h
      have k1 := (cmpLab_zero _ _).1 e1
      subst k1
      by_cases e2 : cmpLab a c = 0
      · rw [if_pos e2] at g ⊢
        exact cmpLabs_trans h g
      · rw [if_neg e2] at g ⊢; exact g
    · rw [if_neg e1] at h
      by_cases e2 : cmpLab b c = 0
      · have k2 := (cmpLab_zero _ _).1 e2
        subst k2
        rw [if_neg e1]; exact h
      · rw [if_neg e2] at g
        have := cmpLab_trans h g
        rw [if_neg (by omega)]; exact this
theorem cmpLabs_lt {x y : List Lab} (h : cmpLabs x y < 0) : cmpLabs x y = -1 := by
  have := cmpLabs_three x y; omega
theorem cmpLabs_self (x : List Lab) : cmpLabs x x = 0 := (cmpLabs_zero x x).2 rfl

/- Lists that rise. -/
theorem pairwise_get {α : Type} {R : α → α → Prop} (tr : ∀ x y z, R x y → R y z → R x z) : ∀ (l : List α), (∀ i x y, l[i]? = some x → l[i + 1]? = some y → R x y) → l.Pairwise R
  | [], _ => .nil
  | a :: r, h => by
    have ih := pairwise_get tr r fun i x y hx hy => h (i + 1) x y (by simpa using hx) (by simpa using hy)
    refine .cons (fun y hy => ?_) ih
    cases r with
    | nil => cases hy
    | cons b q =>
      have h0 := h 0 a b rfl rfl
      rcases List.mem_cons.1 hy with rfl | hy
      · exact h0
      · exact tr _ _ _ h0 ((List.pairwise_cons.1 ih).1 y hy)
theorem get_pairwise {α : Type} {R : α → α → Prop} {l : List α} (h : l.Pairwise R) {i : Nat} {x y : α} (hx : l[i]? = some x) (hy : l[i + 1]? = some y) : R x y := by
  obtain ⟨h1, e1⟩ := List.getElem?_eq_some_iff.1 hx
  obtain ⟨h2, e2⟩ := List.getElem?_eq_some_iff.1 hy
  have := List.pairwise_iff_getElem.1 h i (i + 1) h1 h2 (by omega)
  rw [e1, e2] at this; exact this
/-- Two rising lists of the same members are the same. -/
theorem rising_ext {α : Type} {R : α → α → Prop} (irr : ∀ x, ¬ R x x) (tr : ∀ x y z, R x y → R y z → R x z) : ∀ (l m : List α), l.Pairwise R → m.Pairwise R → (∀ x, x ∈ l ↔ x ∈ m) → l = m
  | [], [], _, _, _ => rfl
  | [], b :: q, _, _, h => absurd ((h b).2 (List.mem_cons_self ..)) (by simp)
  | a :: r, [], _, _, h => absurd ((h a).1 (List.mem_cons_self ..)) (by simp)
  | a :: r, b :: q, hl, hm, h => by
    obtain ⟨h1, h2⟩ := List.pairwise_cons.1 hl
    obtain ⟨g1, g2⟩ := List.pairwise_cons.1 hm
    have e : a = b := by
      rcases List.mem_cons.1 ((h a).1 (List.mem_cons_self ..)) with e | e
      · exact e
      · rcases List.mem_cons.1 ((h b).2 (List.mem_cons_self ..)) with f | f
        · exact f.symm
        · exact absurd (tr _ _ _ (h1 b f) (g1 a e)) (irr a)
    subst e
    refine congrArg (a :: ·) (rising_ext irr tr r q h2 g2 fun x => ⟨fun hx => ?_, fun hx => ?_⟩)
    · rcases List.mem_cons.1 ((h x).1 (List.mem_cons_of_mem _ hx)) with e | e
      · subst e; exact absurd (h1 x hx) (irr x)
      · exact e
    · rcases List.mem_cons.1 ((h x).2 (List.mem_cons_of_mem _ hx)) with e | e
      · subst e; exact absurd (g1 x hx) (irr x)
      · exact e

/- What a batch is, in these words. -/
def SLt (x y : Int × Nat) : Prop := x.1 < y.1
def LLt (x y : Ser) : Prop := cmpLabs x.1 y.1 = -1
theorem SLt.irr (x : Int × Nat) : ¬ SLt x x := by simp [SLt]
theorem SLt.tr (x y z : Int × Nat) (h : SLt x y) (g : SLt y z) : SLt x z := by unfold SLt at *; omega
theorem LLt.irr (x : Ser) : ¬ LLt x x := by simp [LLt, cmpLabs_self]
theorem LLt.tr (x y z : Ser) (h : LLt x y) (g : LLt y z) : LLt x z := cmpLabs_trans h g
theorem samplesOk_iff (l : List (Int × Nat)) : SamplesOk l ↔ l ≠ [] ∧ l.Pairwise SLt := by
  refine and_congr Iff.rfl ⟨fun h => pairwise_get SLt.tr l fun i x y hx hy => h i x y (List.getElem?_eq_some_iff.1 hy).1 hx hy, fun h i x y _ hx hy => get_pairwise h hx hy⟩
theorem batchOk_iff (bs : List Ser) : BatchOk bs ↔ (∀ s ∈ bs, LabelsOk s.1 ∧ SamplesOk s.2) ∧ bs.Pairwise LLt := by
  refine and_congr ⟨fun h s hs => ?_, fun h i x _ hx => h x (List.mem_of_getElem? hx)⟩ ⟨fun h => pairwise_get LLt.tr bs fun i x y hx hy => cmpLabs_lt (h i x y (List.getElem?_eq_some_iff.1 hy).1 hx hy), fun h i x y _ hx hy => ?_⟩
  · obtain ⟨i, hi, e⟩ := List.mem_iff_getElem.1 hs
    exact h i s hi (by rw [List.getElem?_eq_getElem hi, e])
  · have : cmpLabs x.1 y.1 = -1 := get_pairwise h hx hy
    omega

/-- A sample of these labels is in the batch. -/
def Holds (bs : List Ser) (l : List Lab) (t : Int) (v : Nat) : Prop := ∃ s ∈ bs, s.1 = l ∧ (t, v) ∈ s.2
theorem pair_unique {l : List (Int × Nat)} (h : l.Pairwise SLt) {t : Int} {v u : Nat} (h1 : (t, v) ∈ l) (h2 : (t, u) ∈ l) : v = u := by
  induction l with
  | nil => cases h1
  | cons a r ih =>
    obtain ⟨ha, hr⟩ := List.pairwise_cons.1 h
    rcases List.mem_cons.1 h1 with e1 | e1 <;> rcases List.mem_cons.1 h2 with e2 | e2
    · rw [← e1] at e2; exact (Prod.mk.inj e2).2.symm
    · have := ha _ e2; rw [← e1] at this; simp [SLt] at this
    · have := ha _ e1; rw [← e2] at this; simp [SLt] at this
    · exact ih hr e1 e2
theorem ser_unique {bs : List Ser} (h : bs.Pairwise LLt) {s r : Ser} (h1 : s ∈ bs) (h2 : r ∈ bs) (e : s.1 = r.1) : s = r := by
  induction bs with
  | nil => cases h1
  | cons a q ih =>
    obtain ⟨ha, hr⟩ := List.pairwise_cons.1 h
    rcases List.mem_cons.1 h1 with e1 | e1 <;> rcases List.mem_cons.1 h2 with e2 | e2
    · rw [e1, e2]
    · have := ha _ e2; rw [← e1] at this; simp [LLt, e, cmpLabs_self] at this
    · have := ha _ e1; rw [← e2] at this; simp [LLt, e, cmpLabs_self] at this
    · exact ih hr e1 e2
theorem Holds.unique {bs : List Ser} (h : BatchOk bs) {l : List Lab} {t : Int} {v u : Nat} (h1 : Holds bs l t v) (h2 : Holds bs l t u) : v = u := by
  rw [batchOk_iff] at h
  obtain ⟨s, hs, e1, m1⟩ := h1
  obtain ⟨r, hr, e2, m2⟩ := h2
  have := ser_unique h.2 hs hr (e1.trans e2.symm)
  subst this
  exact pair_unique ((samplesOk_iff _).1 (h.1 s hs).2).2 m1 m2
theorem holds_sub {a b : List Ser} (ha : BatchOk a) (hb : BatchOk b) (h : ∀ l t v, Holds a l t v ↔ Holds b l t v) : ∀ s ∈ a, s ∈ b := fun s hs => by
  rw [batchOk_iff] at ha hb
  have hso := (samplesOk_iff _).1 (ha.1 s hs).2
  obtain ⟨x, hx⟩ : ∃ x, x ∈ s.2 := List.exists_mem_of_ne_nil _ hso.1
  obtain ⟨r, hr, e, _⟩ := (h s.1 x.1 x.2).1 ⟨s, hs, rfl, hx⟩
  have hro := (samplesOk_iff _).1 (hb.1 r hr).2
  have e2 : s.2 = r.2 := by
    refine rising_ext SLt.irr SLt.tr _ _ hso.2 hro.2 fun y => ⟨fun hy => ?_, fun hy => ?_⟩
    · obtain ⟨q, hq, e3, m⟩ := (h s.1 y.1 y.2).1 ⟨s, hs, rfl, hy⟩
      rw [ser_unique hb.2 hr hq (e.trans e3.symm)]; exact m
    · obtain ⟨q, hq, e3, m⟩ := (h s.1 y.1 y.2).2 ⟨r, hr, e, hy⟩
      rw [ser_unique ha.2 hs hq e3.symm]; exact m
  have : s = r := Prod.ext e.symm e2
  rw [this]; exact hr
/-- A batch is told by what it holds. -/
theorem batch_ext {a b : List Ser} (ha : BatchOk a) (hb : BatchOk b) (h : ∀ l t v, Holds a l t v ↔ Holds b l t v) : a = b := by
  have h1 := (batchOk_iff a).1 ha
  have h2 := (batchOk_iff b).1 hb
  exact rising_ext LLt.irr LLt.tr a b h1.2 h2.2 fun s => ⟨holds_sub ha hb h s, holds_sub hb ha (fun l t v => (h l t v).symm) s⟩

/-- The join of several batches. -/
structure IsJoin (bss : List (List Ser)) (j : List Ser) : Prop where
  ok : BatchOk j
  holds : ∀ l t v, Holds j l t v ↔ (∃ bs ∈ bss, Holds bs l t v) ∧ ∀ bs ∈ bss, ∀ u, Holds bs l t u → u ≤ v
theorem IsJoin.unique {bss : List (List Ser)} {j k : List Ser} (h : IsJoin bss j) (g : IsJoin bss k) : j = k :=
  batch_ext h.ok g.ok fun l t v => (h.holds l t v).trans (g.holds l t v).symm
theorem IsJoin.perm {bss css : List (List Ser)} {j : List Ser} (h : IsJoin bss j) (hp : ∀ x, x ∈ bss ↔ x ∈ css) : IsJoin css j :=
  ⟨h.ok, fun l t v => (h.holds l t v).trans (by simp only [hp])⟩
/-- What is held of labels at a time by several batches has a greatest. -/
theorem holds_max {bss : List (List Ser)} (hok : ∀ bs ∈ bss, BatchOk bs) (l : List Lab) (t : Int) : (∃ bs ∈ bss, ∃ u, Holds bs l t u) → ∃ v, (∃ bs ∈ bss, Holds bs l t v) ∧ ∀ bs ∈ bss, ∀ u, Holds bs l t u → u ≤ v := by
  induction bss with
  | nil => rintro ⟨bs, h, _⟩; cases h
  | cons a r ih =>
    intro h
    have ih := ih fun bs hb => hok bs (List.mem_cons_of_mem _ hb)
    have ha := hok a (List.mem_cons_self ..)
    by_cases h1 : ∃ bs ∈ r, ∃ u, Holds bs l t u
    · obtain ⟨v, ⟨bs, hb, hv⟩, hmax⟩ := ih h1
      by_cases h2 : ∃ u, Holds a l t u ∧ v ≤ u
      · obtain ⟨u, hu, hle⟩ := h2
        refine ⟨u, ⟨a, List.mem_cons_self .., hu⟩, fun cs hc x hx => ?_⟩
        rcases List.mem_cons.1 hc with rfl | hc
        · exact Nat.le_of_eq (Holds.unique ha hx hu)
        · exact Nat.le_trans (hmax cs hc x hx) hle
      · refine ⟨v, ⟨bs, List.mem_cons_of_mem _ hb, hv⟩, fun cs hc x hx => ?_⟩
        rcases List.mem_cons.1 hc with rfl | hc
        · by_cases e : x ≤ v
          · exact e
          · exact absurd ⟨x, hx, by omega⟩ h2
        · exact hmax cs hc x hx
    · obtain ⟨bs, hb, u, hu⟩ := h
      rcases List.mem_cons.1 hb with rfl | hb
      · refine ⟨u, ⟨bs, List.mem_cons_self .., hu⟩, fun cs hc x hx => ?_⟩
        rcases List.mem_cons.1 hc with rfl | hc
        · exact Nat.le_of_eq (Holds.unique ha hx hu)
        · exact absurd ⟨cs, hc, x, hx⟩ h1
      · exact absurd ⟨bs, hb, u, hu⟩ h1
/-- Joins of joins are joins. -/
theorem IsJoin.group {ass bss : List (List Ser)} {j k : List Ser} (h : IsJoin ass j) (g : IsJoin (j :: bss) k) (ho : ∀ bs ∈ ass, BatchOk bs) : IsJoin (ass ++ bss) k := by
  refine ⟨g.ok, fun l t v => (g.holds l t v).trans ⟨?_, ?_⟩⟩
  · rintro ⟨⟨bs, hb, hv⟩, hmax⟩
    have up : ∀ aa ∈ ass, ∀ u, Holds aa l t u → u ≤ v := fun aa ha u hu => by
      obtain ⟨m, hm, hmm⟩ := holds_max ho l t ⟨aa, ha, u, hu⟩
      exact Nat.le_trans (hmm aa ha u hu) (hmax j (List.mem_cons_self ..) m ((h.holds l t m).2 ⟨hm, hmm⟩))
    refine ⟨?_, fun cs hc u hu => ?_⟩
    · rcases List.mem_cons.1 hb with rfl | hb
      · obtain ⟨⟨aa, ha, hx⟩, _⟩ := (h.holds l t v).1 hv
        exact ⟨aa, List.mem_append_left _ ha, hx⟩
      · exact ⟨bs, List.mem_append_right _ hb, hv⟩
    · rcases List.mem_append.1 hc with hc | hc
      · exact up cs hc u hu
      · exact hmax cs (List.mem_cons_of_mem _ hc) u hu
  · rintro ⟨⟨bs, hb, hv⟩, hmax⟩
    refine ⟨?_, fun cs hc u hu => ?_⟩
    · rcases List.mem_append.1 hb with hb | hb
      · exact ⟨j, List.mem_cons_self .., (h.holds l t v).2 ⟨⟨bs, hb, hv⟩, fun aa ha u hu => hmax aa (List.mem_append_left _ ha) u hu⟩⟩
      · exact ⟨bs, List.mem_cons_of_mem _ hb, hv⟩
    · rcases List.mem_cons.1 hc with rfl | hc
      · obtain ⟨⟨aa, ha, hx⟩, _⟩ := (h.holds l t u).1 hu
        exact hmax aa (List.mem_append_left _ ha) u hx
      · exact hmax cs (List.mem_append_right _ hc) u hu
theorem IsJoin.one {b : List Ser} (h : BatchOk b) : IsJoin [b] b :=
  ⟨h, fun l t v => ⟨fun hv => ⟨⟨b, by simp, hv⟩, fun bs hb u hu => by simp at hb; subst hb; exact Nat.le_of_eq (Holds.unique h hu hv)⟩, fun ⟨⟨bs, hb, hv⟩, _⟩ => by simp at hb; subst hb; exact hv⟩⟩
theorem IsJoin.none : IsJoin [] [] :=
  ⟨by rw [batchOk_iff]; exact ⟨fun s h => (by cases h), .nil⟩, fun l t v => ⟨fun ⟨s, h, _⟩ => (by cases h), fun ⟨⟨bs, h, _⟩, _⟩ => (by cases h)⟩⟩
end Go.Proofs.YtamcclcbmenjdaaGreatDoor

/- 'choirkeep.Level', for any list of steps (100 of them are done): when all are up, nothing is under way, and each has told each other one, all have the same, and compacted logs are the same bytes. The first form's statement and its card: no condition beside the row's own. -/
import Derived.Test.YtamcclcbmenjdaaGreatDoorLevelG6
import Derived.Test.YtamcclcbmenjdaaGreatDoorLevelG26
import Derived.Test.YtamcclcbmenjdaaGreatDoorLevelG4
import Derived.Deep.Slices
import Derived.Deep.Strs
import Derived.OpenShut
import Derived.SizedLaws
import Derived.ProofKit
import Derived.Test.YtamcclcbmenjdaaGreatDoorLevelG2
/- The reference: Good. -/
namespace Go.Proofs.YtamcclcbmenjdaaGreatDoor
open Go.RowKit Go.Lib

theorem empty_size (x : ByteArray) : x.toList.isEmpty = decide (x.size < 1) := by
  rw [ByteArray.toList_eq]
  cases h : x.data.toList with
  | nil => have h2 : x.size = 0 := by show x.data.size = 0; rw [← Array.length_toList, h]; rfl
           simp [h2]
  | cons a r => have h2 : x.size = r.length + 1 := by show x.data.size = _; rw [← Array.length_toList, h]; rfl
                simp [h2]
theorem rises_one (l : List (Int × Nat)) : RisesTo l 1 := fun i x y h => by omega
theorem rises_more {l : List (Int × Nat)} {k : Nat} {x y : Int × Nat} (h : RisesTo l (k + 1)) (hx : l[k]? = some x) (hy : l[k + 1]? = some y) (hlt : x.1 < y.1) : RisesTo l (k + 2) := fun i u v hi hu hv => by
  by_cases e : i = k
  · subst e
    rw [hx] at hu; rw [hy] at hv
    cases hu; cases hv; exact hlt
  · exact h i u v (by omega) hu hv

set_option maxRecDepth 100000 in
set_option maxHeartbeats 4000000 in
theorem refGood_any (B : Nat) (v : Value) (bs : List Ser) (w : World) (hS : BatchAt w B v bs) (hB : B ≤ w.heap.size) (hsm : Small bs) :
    Calls Tryz.prog 144 #[v] w fun e w' => BoolOf e (BatchOk bs) ∧ Below w.heap.size w w' := by
  obtain ⟨a, c, rfl, _⟩ := id hS
  have HS := hide hS
  have hll := hsm.series
  have HSm := hide hsm
  clear hS hsm
  go_enter Tryz.func144, Tryz.ntmps144
  go_wp2
  go_loopw [3, 4, 5, 6, 7] (fun i _ _ _ _ wr => ∃ k : Nat, k ≤ bs.length ∧ i = .int .i64 k ∧ Below w.heap.size w wr ∧ Hid (BatTo bs k)) (fun i _ _ _ _ _ => bs.length - (intOf i).toNat)
  case atStart => exact ⟨0, Nat.zero_le _, rfl, Below.refl _ _, ⟨fun i x h => by omega, fun i x y h => by omega⟩⟩
  case round =>
    generalize wr = W0 at *
    obtain ⟨k, hk, rfl, hbl, HR⟩ := hrel
    have hsz := hbl.size
    have HBl := hide hbl
    clear hbl
    by_cases hlt : k < bs.length
    · obtain ⟨⟨y1, y2⟩, hy⟩ : ∃ y, bs[k]? = some y := ⟨_, List.getElem?_eq_getElem hlt⟩
      have KS := HS.out.below HBl.out hB
      obtain ⟨b, o, la, lc, sa, sc, rfl, hb, c1, c2, hLa, hSa⟩ := KS.get hy
      have hbw : b < W0.heap.size := by omega
      have hym := List.mem_of_getElem? hy
      have hl1 : y1.length ≤ 10000000000000 := HSm.out.labels _ hym
      have hl2 : y2.length ≤ 10000000000000 := HSm.out.samples _ hym
      have HY := hide hy
      have HLa := hide hLa
      have HSa := hide hSa
      have HKS := hide KS
      clear hy hym KS hLa hSa
      simp only at c1 c2
      go_wp2
      go_loopw [5] (fun q wr2 => ∃ t : Nat, t ≤ y1.length ∧ q = .int .i64 t ∧ Below W0.heap.size W0 wr2 ∧ Hid (LabsTo y1 t)) (fun q _ => y1.length - (intOf q).toNat)
      case atStart => exact ⟨0, Nat.zero_le _, rfl, Below.refl _ _, ⟨fun i x h => by omega, fun i x y h => by omega⟩⟩
      case round =>
        obtain ⟨t, ht, rfl, hb2, HR2⟩ := hrel
        have hsz2 := hb2.size
        have HB2 := hide hb2
        have HBA := hide (HBl.out.trans (hb2.mono hsz))
        clear hb2
        by_cases hlt2 : t < y1.length
        · obtain ⟨⟨p1, p2⟩, hp⟩ : ∃ p, y1[t]? = some p := ⟨_, List.getElem?_eq_getElem hlt2⟩
          have KL := HLa.out.below HB2.out (by omega)
          obtain ⟨lb, lo, rfl, hlb, e1, e2⟩ := KL.get hp
          have hlbw : lb < wr.heap.size := by omega
          have HP := hide hp
          clear hp
          simp only at e1 e2
          by_cases h1 : p1.size < 1
          · have hno : ¬ BatchOk bs := fun h => by have h3 := ((h.1 k _ hlt HY.out).1.1 t _ hlt2 HP.out).1; rw [empty_size] at h3; exact of_decide_eq_false h3 h1
            have g1 : (p1.size : Int) < 1 := by omega
            have HNo := hide hno
            clear hno HR HY HP HR2
            go_wp2
            go_quiet (fail)
            go_wp2
            go_ret
            exact ⟨BoolOf.no HNo.out, below_drewN HBA.out _⟩
          have g1 : ¬ (p1.size : Int) < 1 := by omega
          have g1b : ¬ p1.size = 0 := by omega
          have g1c : decide (p1.size < 1) = false := decide_eq_false h1
          have g1d : decide ((p1.size : Int) < 1) = false := decide_eq_false g1
          by_cases h2 : 16 < p1.size
          · have hno : ¬ BatchOk bs := fun h => by have h3 : p1.size ≤ 16 := ((h.1 k _ hlt HY.out).1.1 t _ hlt2 HP.out).2.1; omega
            have g2 : (16 : Int) < (p1.size : Int) := by omega
            have g2c : decide (16 < p1.size) = true := decide_eq_true h2
            have HNo := hide hno
            clear hno HR HY HP HR2
            go_wp2
            go_quiet (fail)
            go_wp2
            go_ret
            exact ⟨BoolOf.no HNo.out, below_drewN HBA.out _⟩
          have g2 : ¬ (16 : Int) < (p1.size : Int) := by omega
          have g2c : decide (16 < p1.size) = false := decide_eq_false h2
          have g2d : decide ((16 : Int) < (p1.size : Int)) = false := decide_eq_false g2
          by_cases h3 : 16 < p2.size
          · have hno : ¬ BatchOk bs := fun h => by have h3 : p2.size ≤ 16 := ((h.1 k _ hlt HY.out).1.1 t _ hlt2 HP.out).2.2; omega
            have g3 : (16 : Int) < (p2.size : Int) := by omega
            have g3c : decide (16 < p2.size) = true := decide_eq_true h3
            have HNo := hide hno
            clear hno HR HY HP HR2
            go_wp2
            go_quiet (fail)
            go_wp2
            go_ret
            exact ⟨BoolOf.no HNo.out, below_drewN HBA.out _⟩
          have g3 : ¬ (16 : Int) < (p2.size : Int) := by omega
          have g3c : decide (16 < p2.size) = false := decide_eq_false h3
          have g3d : decide ((16 : Int) < (p2.size : Int)) = false := decide_eq_false g3
          have hok : KeyOk (p1, p2) := ⟨by rw [empty_size]; exact decide_eq_false h1, by show p1.size ≤ 16; omega, by show p2.size ≤ 16; omega⟩
          have HOk := hide hok
          clear hok
          cases t with
          | zero =>
            simp only [Nat.zero_mul, Nat.add_zero] at e1 e2
            go_wp2
            go_quiet (fail)
            go_wp2
            go_roundw
            case rel => exact ⟨1, by omega, by go_num, below_drewN HB2.out _, HR2.out.one HOk.out HP.out⟩
            case measure => simp [intOf]; omega
          | succ j =>
            obtain ⟨⟨x1, x2⟩, hx⟩ : ∃ x, y1[j]? = some x := ⟨_, List.getElem?_eq_getElem (by omega)⟩
            obtain ⟨b2, o2, hh2, _, d1, _⟩ := KL.get hx
            cases hh2
            have HX := hide hx
            clear hx
            simp only at d1
            have hj0 : (0 : Int) < ((j + 1 : Nat) : Int) := by omega
            have hj1 : (j : Int) < (y1.length : Int) := by omega
            have hj2 : (0 : Int) ≤ (j : Int) := by omega
            have hjw : IntKind.i64.wrap (j : Int) = (j : Int) := by rw [IntKind.wrap_i64]; omega
            have hjw2 : IntKind.i64.wrap (((j + 1 : Nat) : Int) - 1) = (j : Int) := by rw [IntKind.wrap_i64]; omega
            cases hless : Op.bytesLess x1.toList p1.toList with
            | false =>
              have hno : ¬ BatchOk bs := fun h => by have h4 := (h.1 k _ hlt HY.out).1.2 j _ _ (by omega) HX.out HP.out; simp [hless] at h4
              have HNo := hide hno
              clear hno HR HY HP HR2
              go_wp2
              go_quiet (fail)
              go_wp2
              go_ret
              exact ⟨BoolOf.no HNo.out, below_drewN HBA.out _⟩
            | true =>
              go_wp2
              go_quiet (fail)
              go_wp2
              go_roundw
              case rel => exact ⟨j + 2, by omega, by go_num, below_drewN HB2.out _, HR2.out.succ HX.out HP.out HOk.out hless⟩
              case measure => simp [intOf]; omega
        · have hte : t = y1.length := by omega
          have HLok : Hid (LabelsOk y1) := by show LabsTo y1 y1.length; rw [← hte]; exact HR2.out
          generalize wr = W1 at *
          have k1 := (HB2.out.cell (p := ⟨b, o + k * 2, none⟩) hbw).trans c1
          have k2 := (HB2.out.cell (p := ⟨b, o + k * 2 + 1, none⟩) hbw).trans c2
          have hbw1 : b < W1.heap.size := by omega
          clear c1 c2 HR2 hte
          by_cases h0 : y2.length < 1
          · have hno : ¬ BatchOk bs := fun h => (h.1 k _ hlt HY.out).2.1 (List.eq_nil_of_length_eq_zero (by show y2.length = 0; omega))
            have g0 : (y2.length : Int) < 1 := by omega
            have g0b : y2.length = 0 := by omega
            have g0c : decide (y2.length < 1) = true := decide_eq_true h0
            have HNo := hide hno
            clear hno HR HY
            go_wp2
            go_ret
            exact ⟨BoolOf.no HNo.out, HBA.out⟩
          have g0 : ¬ (y2.length : Int) < 1 := by omega
          have g0b : ¬ y2.length = 0 := by omega
          have g0c : decide (y2.length < 1) = false := decide_eq_false h0
          have g0d : decide ((y2.length : Int) < 1) = false := decide_eq_false g0
          go_wp2
          go_loopw [6] (fun q wr3 => ∃ t : Nat, 1 ≤ t ∧ t ≤ y2.length ∧ q = .int .i64 t ∧ Below W1.heap.size W1 wr3 ∧ Hid (RisesTo y2 t)) (fun q _ => y2.length - (intOf q).toNat)
          case atStart => exact ⟨1, by omega, by omega, rfl, Below.refl _ _, rises_one y2⟩
          case round =>
            obtain ⟨u, hu1, hu, rfl, hb3, HR3⟩ := hrel
            have hsz3 := hb3.size
            have HB3 := hide hb3
            have HBC := hide (HBA.out.trans (hb3.mono (by omega)))
            have m1 := (hb3.cell (p := ⟨b, o + k * 2, none⟩) hbw1).trans k1
            have m2 := (hb3.cell (p := ⟨b, o + k * 2 + 1, none⟩) hbw1).trans k2
            have hbw3 : b < wr.heap.size := by omega
            clear hb3
            by_cases hlt3 : u < y2.length
            · obtain ⟨j, rfl⟩ : ∃ j, u = j + 1 := ⟨u - 1, by omega⟩
              obtain ⟨⟨x1, x2⟩, hx⟩ : ∃ x, y2[j]? = some x := ⟨_, List.getElem?_eq_getElem (by omega)⟩
              obtain ⟨⟨z1, z2⟩, hz⟩ : ∃ x, y2[j + 1]? = some x := ⟨_, List.getElem?_eq_getElem (by omega)⟩
              have KS3 := (HSa.out.below HB2.out (by omega)).below HB3.out (by omega)
              obtain ⟨sb, so, rfl, hsb, e1, _⟩ := KS3.get hx
              obtain ⟨sb2, so2, hh3, _, e2, _⟩ := KS3.get hz
              cases hh3
              have HX := hide hx
              have HZ := hide hz
              clear hx hz KS3
              simp only at e1 e2
              have hj1 : (j : Int) < (y2.length : Int) := by omega
              have hj2 : (0 : Int) ≤ (j : Int) := by omega
              have hjw : IntKind.i64.wrap (j : Int) = (j : Int) := by rw [IntKind.wrap_i64]; omega
              have hjw2 : IntKind.i64.wrap (((j + 1 : Nat) : Int) - 1) = (j : Int) := by rw [IntKind.wrap_i64]; omega
              by_cases hge : z1 ≤ x1
              · have hno : ¬ BatchOk bs := fun h => by have h4 : x1 < z1 := (h.1 k _ hlt HY.out).2.2 j _ _ (by omega) HX.out HZ.out; omega
                have HNo := hide hno
                clear hno HR HY HX HZ HR3
                go_wp2
                go_quiet (fail)
                go_wp2
                go_ret
                exact ⟨BoolOf.no HNo.out, below_drewN HBC.out _⟩
              · have HR4 := hide (rises_more HR3.out HX.out HZ.out (by show x1 < z1; omega))
                clear HR3 HX HZ
                go_wp2
                go_quiet (fail)
                go_wp2
                go_roundw
                case rel => exact ⟨j + 2, by omega, by omega, by go_num, below_drewN HB3.out _, HR4.out⟩
                case measure => simp [intOf]; omega
            · have hue : u = y2.length := by omega
              have HSok : Hid (SamplesOk y2) := ⟨fun e => by rw [e] at h0; exact h0 (by simp), by rw [← hue]; exact HR3.out⟩
              clear HR3 hue
              cases k with
              | zero =>
                go_wp2
                go_roundw
                case rel => exact ⟨1, by omega, by go_num, HBC.out, HR.out.one HY.out HLok.out HSok.out⟩
                case measure => simp [intOf]; omega
              | succ j =>
                obtain ⟨⟨x1, x2⟩, hx⟩ : ∃ x, bs[j]? = some x := ⟨_, List.getElem?_eq_getElem (by omega)⟩
                have K3 := (HKS.out.below HB2.out (by omega)).below HB3.out (by omega)
                obtain ⟨b2, o2, la2, lc2, sa2, sc2, hh2, hb2, d1, _, hL2, _⟩ := K3.get hx
                cases hh2
                have hLy := (HLa.out.below HB2.out (by omega)).below HB3.out (by omega)
                have C := hide (refOrder_any B _ _ x1 y1 wr hL2 hLy (by omega) (HSm.out.labels _ (List.mem_of_getElem? hx)))
                have HX := hide hx
                clear hx K3 hL2 hLy
                simp only at d1
                have hj0 : (0 : Int) < ((j + 1 : Nat) : Int) := by omega
                have hj1 : (j : Int) < (bs.length : Int) := by omega
                have hj2 : (0 : Int) ≤ (j : Int) := by omega
                have hjw : IntKind.i64.wrap (j : Int) = (j : Int) := by rw [IntKind.wrap_i64]; omega
                have hjw2 : IntKind.i64.wrap (((j + 1 : Nat) : Int) - 1) = (j : Int) := by rw [IntKind.wrap_i64]; omega
                generalize hcq : cmpLabs x1 y1 = q at *
                have HQ : Hid (cmpLabs x1 y1 = q) := hcq
                clear hcq
                go_wp2_with fail
                refine C.out.mono ?_
                rintro e w4 ⟨rfl, hb4⟩
                have HB4 := hide (HBC.out.trans (hb4.mono (by omega)))
                clear hb4 m1 m2 d1 C
                by_cases hc : 0 ≤ q
                · have hno : ¬ BatchOk bs := fun h => by have h2 : cmpLabs x1 y1 < 0 := h.2 j _ _ (by omega) HX.out HY.out; rw [HQ.out] at h2; omega
                  have HNo := hide hno
                  clear hno HR HY HX
                  go_wp2
                  go_ret
                  exact ⟨BoolOf.no HNo.out, HB4.out⟩
                · have HR5 := hide (HR.out.succ HX.out HY.out HLok.out HSok.out (by show cmpLabs x1 y1 < 0; rw [HQ.out]; omega))
                  clear HR HY HX
                  go_wp2
                  go_roundw
                  case rel => exact ⟨j + 2, by omega, by go_num, HB4.out, HR5.out⟩
                  case measure => simp [intOf]; omega
    · have hke : k = bs.length := by omega
      have HY : Hid (BatchOk bs) := by show BatTo bs bs.length; rw [← hke]; exact HR.out
      clear hke
      go_wp2
      go_ret
      exact ⟨BoolOf.yes HY.out, HBl.out⟩
end Go.Proofs.YtamcclcbmenjdaaGreatDoor

/- The reference: Check, Encode. -/
namespace Go.Proofs.YtamcclcbmenjdaaGreatDoor
open Go.RowKit Go.Lib

theorem Code.unique {bs : List Ser} {n m : Nat} (h : Code bs n) (g : Code bs m) : n = m := by
  rcases h with ⟨rfl, h⟩ | ⟨rfl, h, h'⟩ | ⟨rfl, h, h'⟩ <;> rcases g with ⟨rfl, g⟩ | ⟨rfl, g, g'⟩ | ⟨rfl, g, g'⟩ <;> first | rfl | exact absurd g h | exact absurd h g | exact absurd g' h' | exact absurd h' g'

set_option maxRecDepth 100000 in
set_option maxHeartbeats 400000 in
theorem refCheck_any (B : Nat) (v : Value) (bs : List Ser) (w : World) (hS : BatchAt w B v bs) (hB : B ≤ w.heap.size) (hsm : Small bs) :
    Calls Tryz.prog 121 #[v] w fun e w' => (∃ n : Nat, e = .returned (.int .i64 n) ∧ Code bs n) ∧ Below w.heap.size w w' := by
  obtain ⟨a, c, rfl, _⟩ := id hS
  have C1 := hide (refGood_any B _ bs w hS hB hsm)
  have HS := hide hS
  have HSm := hide hsm
  clear hS hsm
  go_enter Tryz.func121, Tryz.ntmps121
  go_wp2_with fail
  refine C1.out.mono ?_
  rintro e w1 ⟨⟨r1, rfl, hr1⟩, hb1⟩
  have hs1 := hb1.size
  have C2 := hide (refWithin_any B _ bs w1 (HS.out.below hb1 hB) (by omega) HSm.out.series)
  have HB1 := hide hb1
  have HR1 := hide hr1
  clear hb1 hr1 C1
  go_wp2_with fail
  refine C2.out.mono ?_
  rintro e w2 ⟨⟨r2, rfl, hr2⟩, hb2⟩
  have HB2 := hide (HB1.out.trans (hb2.mono hs1))
  have HR2 := hide hr2
  clear hb2 hr2 C2
  cases r1 with
  | false =>
    have HC : Hid (Code bs 1) := .inl ⟨rfl, fun h => by have := HR1.out.2 h; cases this⟩
    go_wp2
    go_ret
    exact ⟨⟨1, rfl, HC.out⟩, HB2.out⟩
  | true =>
    cases r2 with
    | false =>
      have HC : Hid (Code bs 2) := .inr (.inl ⟨rfl, HR1.out.1 rfl, fun h => by have := HR2.out.2 h; cases this⟩)
      go_wp2
      go_ret
      exact ⟨⟨2, rfl, HC.out⟩, HB2.out⟩
    | true =>
      have HC : Hid (Code bs 0) := .inr (.inr ⟨rfl, HR1.out.1 rfl, HR2.out.1 rfl⟩)
      go_wp2
      go_ret
      exact ⟨⟨0, rfl, HC.out⟩, HB2.out⟩

set_option maxRecDepth 100000 in
set_option maxHeartbeats 400000 in
theorem refEncode_any (B : Nat) (v : Value) (bs : List Ser) (w : World) (hS : BatchAt w B v bs) (hB : B ≤ w.heap.size) (hsm : Small bs) :
    Calls Tryz.prog 88 #[v] w fun e w' => (∃ n : Nat, Code bs n ∧ e = .returned (.tuple #[.string (if n = 0 then ⟨(frameOf (payload bs)).toArray⟩ else ByteArray.empty), .int .i64 n])) ∧ Below w.heap.size w w' := by
  obtain ⟨a, c, rfl, _⟩ := id hS
  have C1 := hide (refCheck_any B _ bs w hS hB hsm)
  have HS := hide hS
  clear hS hsm
  go_enter Tryz.func88, Tryz.ntmps88
  go_wp2_with fail
  refine C1.out.mono ?_
  rintro e w1 ⟨⟨n, rfl, hn⟩, hb1⟩
  have hs1 := hb1.size
  have HB1 := hide hb1
  have hn' := hn
  rcases hn' with ⟨rfl, _⟩ | ⟨rfl, _, _⟩ | ⟨rfl, h1, h2⟩
  · have HN := hide hn
    clear hn hb1 C1
    go_wp2
    go_ret2
    exact ⟨⟨1, HN.out, rfl⟩, HB1.out⟩
  · have HN := hide hn
    clear hn hb1 C1
    go_wp2
    go_ret2
    exact ⟨⟨2, HN.out, rfl⟩, HB1.out⟩
  · have HN := hide hn
    have C2 := hide (refFrame_any B _ bs w1 (HS.out.below hb1 hB) (by omega) (fits_of h1 h2))
    clear hn hb1 C1 h1 h2
    go_wp2_with fail
    refine C2.out.mono ?_
    rintro e w2 ⟨rfl, hb2⟩
    have HB2 := hide (HB1.out.trans (hb2.mono hs1))
    clear hb2 C2
    go_wp2
    go_ret2
    exact ⟨⟨0, HN.out, rfl⟩, HB2.out⟩
end Go.Proofs.YtamcclcbmenjdaaGreatDoor

/- A list of raw samples that came in. -/
namespace Go.Proofs.YtamcclcbmenjdaaGreatDoor
open Go.RowKit Go.Lib Go.ChangeShapes Go.WideShapes

theorem cellsIntR : Tryz.prog.cellsOf 3 = 1 := by kernel_rfl
theorem cellsU64R : Tryz.prog.cellsOf 32 = 1 := by kernel_rfl
theorem cellsRaw : Tryz.prog.cellsOf 91 = 3 := by kernel_rfl
theorem wf_i64 {n : Int} (h : (Lit.int .i64 n).wf = true) : -9223372036854775808 ≤ n ∧ n ≤ 9223372036854775807 := by
  simp [Lit.wf, IntKind.min, IntKind.max, IntKind.signed, IntKind.bits] at h
  omega
theorem wf_u64 {n : Int} (h : (Lit.int .u64 n).wf = true) : 0 ≤ n ∧ n ≤ 18446744073709551615 := by
  simp [Lit.wf, IntKind.min, IntKind.max, IntKind.signed, IntKind.bits] at h
  omega
/-- A list of raw samples that came in. -/
theorem raws_of {H : Type} {enc : TypeId × Value → H} {W : World} {a0 : Option Addr} {len cap : Nat} {d : DataW H} {ps : List MemPlace} (h : DataW.Trod enc Tryz.prog W 0 (fun _ => true) true 45 (.slice a0 len cap) d ps) :
    ∃ raws, RawsAt W W.heap.size (.slice a0 len cap) raws ∧ ((d = .nil ∧ raws.length = 0) ∨ ∃ elems spare, d = .slice elems spare ∧ raws.length = elems.length) := by
  obtain ⟨fuel, hf⟩ := h
  have hf' : DataW.trod enc Tryz.prog W 0 (fun _ => true) true fuel 45 [.slice a0 len cap] = some (d, ps) := hf
  rcases Go.Deep.open_slice Tryz.underlying45 hf' with ⟨hcs, hx⟩ | ⟨a, len', cap', m, n, D, Pl, hcs, hb, hl, hm, hmm, hx, hel⟩
  · cases hcs
    cases hx
    exact ⟨[], ⟨none, 0, rfl, (fun x hx => by cases hx), .inl rfl⟩, .inl ⟨rfl, rfl⟩⟩
  · cases hcs
    simp only [if_true] at hmm
    subst hmm
    have hd : d = .slice ((List.range len).map D) ((List.range (m - len)).map fun j => D (len + j)) := congrArg Prod.fst hx
    rw [cellsRaw] at hel
    have each : ∀ i, i < len → ∃ x : Int × Int × Nat, W.cell? (a.add (i * 3)) = some (.int .i64 x.1) ∧ W.cell? ((a.add (i * 3)).add 1) = some (.int .i64 x.2.1) ∧ W.cell? ((a.add (i * 3)).add 2) = some (.int .u64 (x.2.2 : Int)) ∧
        -9223372036854775808 ≤ x.1 ∧ x.1 ≤ 9223372036854775807 ∧ -9223372036854775808 ≤ x.2.1 ∧ x.2.1 ≤ 9223372036854775807 ∧ x.2.2 ≤ 18446744073709551615 := by
      intro i hi
      obtain ⟨cs', h1, h2⟩ := hel i (by omega)
      obtain ⟨_, hlen, hcell⟩ := World.cells?_some h1
      obtain ⟨y0, y1, y2, k, _, _, g0, g1, g2⟩ := Go.Deep.trod_struct3 Tryz.underlying91 h2
      simp only [cellsIntR, cellsU64R] at g0 g1 g2
      obtain ⟨m0, e0, _, w0⟩ := DataW.trod_int Tryz.underlying3 g0
      obtain ⟨m1, e1, _, w1⟩ := DataW.trod_int Tryz.underlying3 g1
      obtain ⟨m2, e2, _, w2⟩ := DataW.trod_int Tryz.underlying32 g2
      have b0 := wf_i64 w0
      have b1 := wf_i64 w1
      have b2 := wf_u64 w2
      match cs', hlen, hcell, e0, e1, e2 with
      | [c0, c1, c2], _, hcell, e0, e1, e2 =>
        simp at e0 e1 e2
        subst e0 e1 e2
        have q0 := hcell 0 (by omega)
        have q1 := hcell 1 (by omega)
        have q2 := hcell 2 (by omega)
        have z0 : (a.add (i * 3)).add 0 = a.add (i * 3) := by unfold Addr.add; simp
        rw [z0] at q0
        refine ⟨(m0, m1, m2.toNat), q0, q1, ?_, b0.1, b0.2, b1.1, b1.2, by show m2.toNat ≤ _; omega⟩
        rw [q2]
        show some (Value.int .u64 m2) = some (.int .u64 (m2.toNat : Int))
        rw [Int.toNat_of_nonneg b2.1]
    obtain ⟨F, hF⟩ := Go.Deep.choose_lt each
    refine ⟨(List.range len).map F, ⟨some a, m, by simp, fun x hx => ?_, ?_⟩, .inr ⟨_, _, hd, by simp⟩⟩
    · obtain ⟨i, hi, rfl⟩ := List.mem_map.1 hx
      exact (hF i (List.mem_range.1 hi)).2.2.2
    · by_cases h0 : len = 0
      · subst h0; exact .inl rfl
      · obtain ⟨b, o, spot⟩ := a
        have hs : spot = none := by
          have := (hF 0 (by omega)).1
          simpa [Addr.add] using World.cell?_spot this
        subst hs
        refine .inr ⟨b, o, rfl, World.block_lt_of_cell? W _ (hF 0 (by omega)).1, fun i x hx => ?_⟩
        have hi : i < len := by have := (List.getElem?_eq_some_iff.1 hx).1; simpa using this
        have e : x = F i := by
          rw [List.getElem?_map, List.getElem?_range hi] at hx
          exact (Option.some.inj hx).symm
        subst e
        have hh := hF i hi
        rw [addr_add, addr_add, addr_add] at hh
        exact ⟨hh.1, hh.2.1, hh.2.2.1⟩
theorem small_of {bs : List Ser} (h : LimitsOk bs) : Small bs := by
  have hg : ∀ s ∈ bs, s.1.length ≤ 4 ∧ s.2.length ≤ 40 := fun s hs => by
    obtain ⟨i, hi, e⟩ := List.mem_iff_getElem.1 hs
    exact h.1 i s hi (by rw [List.getElem?_eq_getElem hi, e])
  exact ⟨by have := h.2; omega, fun s hs => by have := (hg s hs).1; omega, fun s hs => by have := (hg s hs).2; omega⟩
theorem Tryz.own : ownKnob Tryz.prog.godebug = none := by kernel_rfl
theorem Tryz.laidOut : laidOutB Tryz.prog = true := by kernel_rfl
theorem Tryz.bytesRaw : Tryz.prog.bytesOf 91 = 24 := by kernel_rfl
theorem Tryz.rawReads : Tryz.prog.readableRec 45 = true := by kernel_rfl
theorem Tryz.rawType : 45 < Tryz.prog.types.size := of_decide_eq_true (by kernel_rfl)
end Go.Proofs.YtamcclcbmenjdaaGreatDoor

/- A list of series that came in: what it is in memory. -/
namespace Go.Proofs.YtamcclcbmenjdaaGreatDoor
open Go.RowKit Go.Lib Go.ChangeShapes Go.WideShapes

theorem cellsStr : Tryz.prog.cellsOf 9 = 1 := by kernel_rfl
theorem cellsI : Tryz.prog.cellsOf 3 = 1 := by kernel_rfl
theorem cellsW : Tryz.prog.cellsOf 32 = 1 := by kernel_rfl
theorem cellsLab : Tryz.prog.cellsOf 80 = 2 := by kernel_rfl
theorem cellsSam : Tryz.prog.cellsOf 34 = 2 := by kernel_rfl
theorem cellsSer : Tryz.prog.cellsOf 38 = 2 := by kernel_rfl
theorem cellsLs : Tryz.prog.cellsOf 36 = 1 := by kernel_rfl
theorem cellsSs : Tryz.prog.cellsOf 35 = 1 := by kernel_rfl
theorem bytesLab : Tryz.prog.bytesOf 80 = 32 := by kernel_rfl
theorem bytesSam : Tryz.prog.bytesOf 34 = 16 := by kernel_rfl
theorem bytesSer : Tryz.prog.bytesOf 38 = 48 := by kernel_rfl

/-- Nothing in it is too great. -/
def Light {H : Type} (t : TypeId) (d : DataW H) : Prop := ∀ n ∈ d.weights Tryz.prog t, n ≤ reachBytes
theorem weights_all {H : Type} {e : TypeId} {l : List (DataW H)} {d : DataW H} (hd : d ∈ l) : ∀ n ∈ d.weights Tryz.prog e, n ∈ DataW.weightsAll Tryz.prog e l := by
  induction l with
  | nil => cases hd
  | cons a r ih =>
    intro n hn
    rw [DataW.weightsAll]
    rcases List.mem_cons.1 hd with rfl | hd
    · exact List.mem_append_left _ hn
    · exact List.mem_append_right _ (ih hd n hn)
theorem Light.elem {H : Type} {t e : TypeId} {elems spare : List (DataW H)} (hu : Tryz.prog.underlying t = some (.slice e)) (h : Light t (.slice elems spare)) {d : DataW H} (hd : d ∈ elems) : Light e d := fun n hn => by
  apply h
  rw [DataW.weights, hu]
  exact List.mem_cons_of_mem _ (List.mem_append_left _ (weights_all hd n hn))
theorem Light.len {H : Type} {t e : TypeId} {elems spare : List (DataW H)} (hu : Tryz.prog.underlying t = some (.slice e)) (h : Light t (.slice elems spare)) : elems.length * Tryz.prog.bytesOf e ≤ reachBytes := by
  have h1 := h ((elems.length + spare.length) * Tryz.prog.bytesOf e) (by rw [DataW.weights, hu]; exact List.mem_cons_self ..)
  exact Nat.le_trans (Nat.mul_le_mul_right _ (by omega)) h1
theorem Light.pair {H : Type} {t : TypeId} {f0 f1 : Field} {d0 d1 : DataW H} (hu : Tryz.prog.underlying t = some (.struct #[f0, f1])) (h : Light t (.agg [d0, d1])) : Light f0.type d0 ∧ Light f1.type d1 := by
  have hw : (DataW.agg [d0, d1]).weights Tryz.prog t = d0.weights Tryz.prog f0.type ++ (d1.weights Tryz.prog f1.type ++ []) := by
    rw [DataW.weights, hu]; rfl
  refine ⟨fun n hn => h n ?_, fun n hn => h n ?_⟩
  · rw [hw]; exact List.mem_append_left _ hn
  · rw [hw]; exact List.mem_append_right _ (List.mem_append_left _ hn)

theorem in_add (b o n : Nat) : (⟨b, o, none⟩ : Addr).add n = ⟨b, o + n, none⟩ := by
  unfold Addr.add; split <;> simp_all
/-- A slice of structs of two cells. -/
theorem slice_pairs {H : Type} {enc : TypeId × Value → H} {W : World} {T e : TypeId} (hT : Tryz.prog.underlying T = some (.slice e)) (he : Tryz.prog.cellsOf e = 2) {α : Type} [Inhabited α] (R : α → Value → Value → Prop)
    (each : ∀ (n : Nat) (c0 c1 : Value) (y : DataW H × List MemPlace), DataW.trod enc Tryz.prog W 0 (fun _ => true) true n e [c0, c1] = some y → Light e y.1 → ∃ z : α, R z c0 c1)
    {fuel : Nat} {cs : List Value} {x : DataW H × List MemPlace} (h : DataW.trod enc Tryz.prog W 0 (fun _ => true) true fuel T cs = some x) (hw : Light T x.1) :
    ∃ (a : Option Addr) (cap : Nat) (l : List α), cs = [.slice a l.length cap] ∧ l.length ≤ cap ∧ l.length * Tryz.prog.bytesOf e ≤ reachBytes ∧
      (l = [] ∨ ∃ b o, a = some ⟨b, o, none⟩ ∧ b < W.heap.size ∧ ∀ i z, l[i]? = some z → ∃ c0 c1, W.cell? ⟨b, o + i * 2, none⟩ = some c0 ∧ W.cell? ⟨b, o + i * 2 + 1, none⟩ = some c1 ∧ R z c0 c1) := by
  rcases Go.Deep.open_slice hT h with ⟨hcs, hx⟩ | ⟨a, len, cap, m, n, D, Pl, hcs, hb, hl, hm, hmm, hx, hel⟩
  · exact ⟨none, 0, [], hcs, Nat.le_refl _, by simp, .inl rfl⟩
  · simp only [if_true] at hmm
    subst hmm
    have hd : x.1 = .slice ((List.range len).map D) ((List.range (m - len)).map fun j => D (len + j)) := congrArg Prod.fst hx
    rw [hd] at hw
    rw [he] at hel
    have hone : ∀ i, i < len → ∃ z : α, ∃ c0 c1, W.cell? (a.add (i * 2)) = some c0 ∧ W.cell? ((a.add (i * 2)).add 1) = some c1 ∧ R z c0 c1 := fun i hi => by
      obtain ⟨cs', h1, h2⟩ := hel i (by omega)
      obtain ⟨_, hlen, hcell⟩ := World.cells?_some h1
      match cs', hlen, hcell, h2 with
      | [c0, c1], _, hcell, h2 =>
        have q0 := hcell 0 (by omega)
        have q1 := hcell 1 (by omega)
        have z0 : (a.add (i * 2)).add 0 = a.add (i * 2) := by unfold Addr.add; simp
        rw [z0] at q0
        obtain ⟨z, hz⟩ := each n c0 c1 _ h2 (hw.elem hT (List.mem_map.2 ⟨i, List.mem_range.2 hi, rfl⟩))
        exact ⟨z, c0, c1, q0, q1, hz⟩
    obtain ⟨F, hF⟩ := Go.Deep.choose_lt hone
    have hlen : ((List.range len).map F).length = len := by simp
    refine ⟨some a, m, (List.range len).map F, by rw [hlen]; exact hcs, by omega, ?_, ?_⟩
    · have := hw.len hT
      rw [hlen]
      simpa using this
    · by_cases h0 : len = 0
      · subst h0; exact .inl rfl
      · obtain ⟨b, o, spot⟩ := a
        have hs : spot = none := by
          obtain ⟨c0, c1, h1, _⟩ := hF 0 (by omega)
          simpa [Addr.add] using World.cell?_spot h1
        subst hs
        have hb0 : b < W.heap.size := by
          obtain ⟨c0, c1, h1, _⟩ := hF 0 (by omega)
          exact World.block_lt_of_cell? W _ h1
        refine .inr ⟨b, o, rfl, hb0, fun i z hz => ?_⟩
        have hi : i < len := by have := (List.getElem?_eq_some_iff.1 hz).1; simpa using this
        have e : z = F i := by
          rw [List.getElem?_map, List.getElem?_range hi] at hz
          exact (Option.some.inj hz).symm
        subst e
        obtain ⟨c0, c1, h1, h2, h3⟩ := hF i hi
        rw [in_add] at h1 h2
        rw [in_add] at h2
        exact ⟨c0, c1, h1, h2, h3⟩

theorem lab_in {H : Type} {enc : TypeId × Value → H} {W : World} (n : Nat) (c0 c1 : Value) (y : DataW H × List MemPlace) (h : DataW.trod enc Tryz.prog W 0 (fun _ => true) true n 80 [c0, c1] = some y) (_ : Light 80 y.1) : ∃ z : Lab, c0 = .string z.1 ∧ c1 = .string z.2 := by
  obtain ⟨y0, y1, n, rfl, hl, h0, h1⟩ := trod_struct2 Tryz.underlying80 h
  simp only [cellsStr] at h0 h1
  obtain ⟨s0, e0, _, _⟩ := DataW.trod_string Tryz.underlying9 h0
  obtain ⟨s1, e1, _, _⟩ := DataW.trod_string Tryz.underlying9 h1
  simp at e0 e1
  exact ⟨(s0, s1), e0, e1⟩
theorem in_i64 {n : Int} (h : (Lit.int .i64 n).wf = true) : -9223372036854775808 ≤ n ∧ n ≤ 9223372036854775807 := by
  simp [Lit.wf, IntKind.min, IntKind.max, IntKind.signed, IntKind.bits] at h
  omega
theorem in_u64 {n : Int} (h : (Lit.int .u64 n).wf = true) : 0 ≤ n ∧ n ≤ 18446744073709551615 := by
  simp [Lit.wf, IntKind.min, IntKind.max, IntKind.signed, IntKind.bits] at h
  omega
theorem sam_in {H : Type} {enc : TypeId × Value → H} {W : World} (n : Nat) (c0 c1 : Value) (y : DataW H × List MemPlace) (h : DataW.trod enc Tryz.prog W 0 (fun _ => true) true n 34 [c0, c1] = some y) (_ : Light 34 y.1) :
    ∃ z : Int × Nat, c0 = .int .i64 z.1 ∧ c1 = .int .u64 (z.2 : Int) ∧ -9223372036854775808 ≤ z.1 ∧ z.1 ≤ 9223372036854775807 ∧ z.2 ≤ 18446744073709551615 := by
  obtain ⟨y0, y1, n, rfl, hl, h0, h1⟩ := trod_struct2 Tryz.underlying34 h
  simp only [cellsI, cellsW] at h0 h1
  obtain ⟨m0, e0, _, w0⟩ := DataW.trod_int Tryz.underlying3 h0
  obtain ⟨m1, e1, _, w1⟩ := DataW.trod_int Tryz.underlying32 h1
  simp at e0 e1
  have b0 := in_i64 w0
  have b1 := in_u64 w1
  exact ⟨(m0, m1.toNat), e0, by rw [e1]; show Value.int .u64 m1 = .int .u64 (m1.toNat : Int); rw [Int.toNat_of_nonneg b1.1], b0.1, b0.2, by show m1.toNat ≤ _; omega⟩
/-- A series that came in. -/
def SerIn (W : World) (s : Ser) (c0 c1 : Value) : Prop := LabelsAt W W.heap.size c0 s.1 ∧ SamplesAt W W.heap.size c1 s.2 ∧ s.1.length * 32 ≤ reachBytes ∧ s.2.length * 16 ≤ reachBytes
theorem ser_in {H : Type} {enc : TypeId × Value → H} {W : World} (n : Nat) (c0 c1 : Value) (y : DataW H × List MemPlace) (h : DataW.trod enc Tryz.prog W 0 (fun _ => true) true n 38 [c0, c1] = some y) (hw : Light 38 y.1) : ∃ z : Ser, SerIn W z c0 c1 := by
  obtain ⟨y0, y1, n, rfl, hl, h0, h1⟩ := trod_struct2 Tryz.underlying38 h
  obtain ⟨l0, l1⟩ := hw.pair Tryz.underlying38
  simp only [cellsLs, cellsSs] at h0 h1 l0 l1
  obtain ⟨a, cap, l, e0, hc, hby, hcell⟩ := slice_pairs Tryz.underlying36 cellsLab (fun (z : Lab) c0 c1 => c0 = .string z.1 ∧ c1 = .string z.2) lab_in h0 l0
  obtain ⟨b, cap2, m, e1, hc2, hby2, hcell2⟩ := slice_pairs Tryz.underlying35 cellsSam (fun (z : Int × Nat) c0 c1 => c0 = .int .i64 z.1 ∧ c1 = .int .u64 (z.2 : Int) ∧ -9223372036854775808 ≤ z.1 ∧ z.1 ≤ 9223372036854775807 ∧ z.2 ≤ 18446744073709551615) sam_in h1 l1
  rw [bytesLab] at hby
  rw [bytesSam] at hby2
  simp at e0 e1
  subst e0 e1
  refine ⟨(l, m), ⟨a, cap, rfl, hc, ?_⟩, ⟨b, cap2, rfl, hc2, fun x hx => ?_, ?_⟩, hby, hby2⟩
  · rcases hcell with h | ⟨b, o, ha, hb, hh⟩
    · exact .inl h
    · refine .inr ⟨b, o, ha, hb, fun i x hx => ?_⟩
      obtain ⟨c0, c1, h1, h2, rfl, rfl⟩ := hh i x hx
      exact ⟨h1, h2⟩
  · rcases hcell2 with h | ⟨b, o, ha, hb, hh⟩
    · rw [h] at hx; cases hx
    · obtain ⟨i, hi, rfl⟩ := List.mem_iff_getElem.1 hx
      obtain ⟨c0, c1, _, _, _, _, h3⟩ := hh i _ (List.getElem?_eq_getElem hi)
      exact h3
  · rcases hcell2 with h | ⟨b, o, ha, hb, hh⟩
    · exact .inl h
    · refine .inr ⟨b, o, ha, hb, fun i x hx => ?_⟩
      obtain ⟨c0, c1, h1, h2, rfl, rfl, _⟩ := hh i x hx
      exact ⟨h1, h2⟩
/-- A list of series that came in. -/
theorem batch_in {H : Type} {enc : TypeId × Value → H} {W : World} {a0 : Option Addr} {len0 cap0 : Nat} {d : DataW H} {ps : List MemPlace} (h : DataW.Trod enc Tryz.prog W 0 (fun _ => true) true 39 (.slice a0 len0 cap0) d ps) (hw : Light 39 d) :
    ∃ bs : List Ser, BatchAt W W.heap.size (.slice a0 len0 cap0) bs ∧ bs.length * 48 ≤ reachBytes ∧ ∀ s ∈ bs, s.1.length * 32 ≤ reachBytes ∧ s.2.length * 16 ≤ reachBytes := by
  obtain ⟨fuel, hf⟩ := h
  have hf' : DataW.trod enc Tryz.prog W 0 (fun _ => true) true fuel 39 [.slice a0 len0 cap0] = some (d, ps) := hf
  obtain ⟨a, cap, l, e0, hc, hby, hcell⟩ := slice_pairs Tryz.underlying39 cellsSer (SerIn W) ser_in hf' hw
  rw [bytesSer] at hby
  simp only [List.cons.injEq, and_true] at e0
  rw [e0]
  refine ⟨l, ⟨a, cap, rfl, hc, ?_⟩, hby, fun s hs => ?_⟩
  · rcases hcell with h | ⟨b, o, ha, hb, hh⟩
    · exact .inl h
    · refine .inr ⟨b, o, ha, hb, fun i x hx => ?_⟩
      obtain ⟨c0, c1, h1, h2, h3, h4, _⟩ := hh i x hx
      exact ⟨c0, c1, h1, h2, h3, h4⟩
  · rcases hcell with h | ⟨b, o, ha, hb, hh⟩
    · rw [h] at hs; cases hs
    · obtain ⟨i, hi, rfl⟩ := List.mem_iff_getElem.1 hs
      obtain ⟨c0, c1, _, _, _, _, h3⟩ := hh i _ (List.getElem?_eq_getElem hi)
      exact h3
theorem light_of {H : Type} {ts : List TypeId} {ds : List (DataW H)} (h : (DataW.weightsEach Tryz.prog ts ds).all (· ≤ reachBytes) = true) {j : Nat} {t : TypeId} {d : DataW H} (ht : ts[j]? = some t) (hd : ds[j]? = some d) : Light t d := fun n hn => by
  have := List.all_eq_true.1 h n (DataW.weights_mem_each ht hd n hn)
  simpa using this
end Go.Proofs.YtamcclcbmenjdaaGreatDoor

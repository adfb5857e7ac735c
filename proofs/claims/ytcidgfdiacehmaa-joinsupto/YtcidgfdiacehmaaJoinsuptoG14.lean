/- 'choirlaw.Joins', for any two lists of series of bulk at most 1048576: Join answers the document's join or error, either way round; what is handed in stays, what comes out is its owner's. The second form's statement: its only condition is the row's own bound on the arguments' bulk. -/
import Derived.Test.YtcidgfdiacehmaaJoinsuptoG10
import Derived.Test.YtcidgfdiacehmaaJoinsuptoG2
import Derived.Laws.IdiomStrings
/- The reference: Good. -/
namespace Go.Proofs.Ytcidgfdiacehmaa
open Go.RowKit Go.Lib

theorem empty_size (x : ByteArray) : x.toList.isEmpty = decide (x.size < 1) := by
  rw [ByteArray.toList_eq]
  cases h : x.data.toList with
  | nil => have h2 : x.size = 0 := by show x.data.size = 0; rw [← Array.length_toList, h]; rfl
           simp [h2]
  | cons a r => have h2 : x.size = r.length + 1 := by show x.data.size = _; rw [← Array.length_toList, h]; rfl
                simp [h2]
theorem rises_one (l : List (Int × Nat)) : RisesTo l 1 := fun i x y h => by omega
theorem rises_more {l : List (Int × Nat)} {k : Nat} {x y : Int × Nat} (h : RisesTo l (k + 1)) (hx : l[k]? = some x) (hy : l[k + 1]? = some y) (hlt : x.1 < y.1) : RisesTo l (k + 2) := fun i u v hi hu hv => by
  by_cases e : i = k
  · subst e
    rw [hx] at hu; rw [hy] at hv
    cases hu; cases hv; exact hlt
  · exact h i u v (by omega) hu hv

set_option maxRecDepth 100000 in
set_option maxHeartbeats 4000000 in
theorem refGood_any (B : Nat) (v : Value) (bs : List Ser) (w : World) (hS : BatchAt w B v bs) (hB : B ≤ w.heap.size) (hsm : Small bs) :
    Calls Try.prog 26 #[v] w fun e w' => BoolOf e (BatchOk bs) ∧ Below w.heap.size w w' := by
  obtain ⟨a, c, rfl, _⟩ := id hS
  have HS := hide hS
  have hll := hsm.series
  have HSm := hide hsm
  clear hS hsm
  go_enter Try.func26, Try.ntmps26
  go_wp2
  go_loopw [3, 4, 5, 6, 7] (fun i _ _ _ _ wr => ∃ k : Nat, k ≤ bs.length ∧ i = .int .i64 k ∧ Below w.heap.size w wr ∧ Hid (BatTo bs k)) (fun i _ _ _ _ _ => bs.length - (intOf i).toNat)
  case atStart => exact ⟨0, Nat.zero_le _, rfl, Below.refl _ _, ⟨fun i x h => by omega, fun i x y h => by omega⟩⟩
  case round =>
    generalize wr = W0 at *
    obtain ⟨k, hk, rfl, hbl, HR⟩ := hrel
    have hsz := hbl.size
    have HBl := hide hbl
    clear hbl
    by_cases hlt : k < bs.length
    · obtain ⟨⟨y1, y2⟩, hy⟩ : ∃ y, bs[k]? = some y := ⟨_, List.getElem?_eq_getElem hlt⟩
      have KS := HS.out.below HBl.out hB
      obtain ⟨b, o, la, lc, sa, sc, rfl, hb, c1, c2, hLa, hSa⟩ := KS.get hy
      have hbw : b < W0.heap.size := by omega
      have hym := List.mem_of_getElem? hy
      have hl1 : y1.length ≤ 10000000000000 := HSm.out.labels _ hym
      have hl2 : y2.length ≤ 10000000000000 := HSm.out.samples _ hym
      have HY := hide hy
      have HLa := hide hLa
      have HSa := hide hSa
      have HKS := hide KS
      clear hy hym KS hLa hSa
      simp only at c1 c2
      go_wp2
      go_loopw [5] (fun q wr2 => ∃ t : Nat, t ≤ y1.length ∧ q = .int .i64 t ∧ Below W0.heap.size W0 wr2 ∧ Hid (LabsTo y1 t)) (fun q _ => y1.length - (intOf q).toNat)
      case atStart => exact ⟨0, Nat.zero_le _, rfl, Below.refl _ _, ⟨fun i x h => by omega, fun i x y h => by omega⟩⟩
      case round =>
        obtain ⟨t, ht, rfl, hb2, HR2⟩ := hrel
        have hsz2 := hb2.size
        have HB2 := hide hb2
        have HBA := hide (HBl.out.trans (hb2.mono hsz))
        clear hb2
        by_cases hlt2 : t < y1.length
        · obtain ⟨⟨p1, p2⟩, hp⟩ : ∃ p, y1[t]? = some p := ⟨_, List.getElem?_eq_getElem hlt2⟩
          have KL := HLa.out.below HB2.out (by omega)
          obtain ⟨lb, lo, rfl, hlb, e1, e2⟩ := KL.get hp
          have hlbw : lb < wr.heap.size := by omega
          have HP := hide hp
          clear hp
          simp only at e1 e2
          by_cases h1 : p1.size < 1
          · have hno : ¬ BatchOk bs := fun h => by have h3 := ((h.1 k _ hlt HY.out).1.1 t _ hlt2 HP.out).1; rw [empty_size] at h3; exact of_decide_eq_false h3 h1
            have g1 : (p1.size : Int) < 1 := by omega
            have HNo := hide hno
            clear hno HR HY HP HR2
            go_wp2
            go_quiet (fail)
            go_wp2
            go_ret
            exact ⟨BoolOf.no HNo.out, below_drewN HBA.out _⟩
          have g1 : ¬ (p1.size : Int) < 1 := by omega
          have g1b : ¬ p1.size = 0 := by omega
          have g1c : decide (p1.size < 1) = false := decide_eq_false h1
          have g1d : decide ((p1.size : Int) < 1) = false := decide_eq_false g1
          by_cases h2 : 16 < p1.size
          · have hno : ¬ BatchOk bs := fun h => by have h3 : p1.size ≤ 16 := ((h.1 k _ hlt HY.out).1.1 t _ hlt2 HP.out).2.1; omega
            have g2 : (16 : Int) < (p1.size : Int) := by omega
            have g2c : decide (16 < p1.size) = true := decide_eq_true h2
            have HNo := hide hno
            clear hno HR HY HP HR2
            go_wp2
            go_quiet (fail)
            go_wp2
            go_ret
            exact ⟨BoolOf.no HNo.out, below_drewN HBA.out _⟩
          have g2 : ¬ (16 : Int) < (p1.size : Int) := by omega
          have g2c : decide (16 < p1.size) = false := decide_eq_false h2
          have g2d : decide ((16 : Int) < (p1.size : Int)) = false := decide_eq_false g2
          by_cases h3 : 16 < p2.size
          · have hno : ¬ BatchOk bs := fun h => by have h3 : p2.size ≤ 16 := ((h.1 k _ hlt HY.out).1.1 t _ hlt2 HP.out).2.2; omega
            have g3 : (16 : Int) < (p2.size : Int) := by omega
            have g3c : decide (16 < p2.size) = true := decide_eq_true h3
            have HNo := hide hno
            clear hno HR HY HP HR2
            go_wp2
            go_quiet (fail)
            go_wp2
            go_ret
            exact ⟨BoolOf.no HNo.out, below_drewN HBA.out _⟩
          have g3 : ¬ (16 : Int) < (p2.size : Int) := by omega
          have g3c : decide (16 < p2.size) = false := decide_eq_false h3
          have g3d : decide ((16 : Int) < (p2.size : Int)) = false := decide_eq_false g3
          have hok : KeyOk (p1, p2) := ⟨by rw [empty_size]; exact decide_eq_false h1, by show p1.size ≤ 16; omega, by show p2.size ≤ 16; omega⟩
          have HOk := hide hok
          clear hok
          cases t with
          | zero =>
            simp only [Nat.zero_mul, Nat.add_zero] at e1 e2
            go_wp2
            go_quiet (fail)
            go_wp2
            go_roundw
            case rel => exact ⟨1, by omega, by go_num, below_drewN HB2.out _, HR2.out.one HOk.out HP.out⟩
            case measure => simp [intOf]; omega
          | succ j =>
            obtain ⟨⟨x1, x2⟩, hx⟩ : ∃ x, y1[j]? = some x := ⟨_, List.getElem?_eq_getElem (by omega)⟩
            obtain ⟨b2, o2, hh2, _, d1, _⟩ := KL.get hx
            cases hh2
            have HX := hide hx
            clear hx
            simp only at d1
            have hj0 : (0 : Int) < ((j + 1 : Nat) : Int) := by omega
            have hj1 : (j : Int) < (y1.length : Int) := by omega
            have hj2 : (0 : Int) ≤ (j : Int) := by omega
            have hjw : IntKind.i64.wrap (j : Int) = (j : Int) := by rw [IntKind.wrap_i64]; omega
            have hjw2 : IntKind.i64.wrap (((j + 1 : Nat) : Int) - 1) = (j : Int) := by rw [IntKind.wrap_i64]; omega
            cases hless : Op.bytesLess x1.toList p1.toList with
            | false =>
              have hno : ¬ BatchOk bs := fun h => by have h4 := (h.1 k _ hlt HY.out).1.2 j _ _ (by omega) HX.out HP.out; simp [hless] at h4
              have HNo := hide hno
              clear hno HR HY HP HR2
              go_wp2
              go_quiet (fail)
              go_wp2
              go_ret
              exact ⟨BoolOf.no HNo.out, below_drewN HBA.out _⟩
            | true =>
              go_wp2
              go_quiet (fail)
              go_wp2
              go_roundw
              case rel => exact ⟨j + 2, by omega, by go_num, below_drewN HB2.out _, HR2.out.succ HX.out HP.out HOk.out hless⟩
              case measure => simp [intOf]; omega
        · have hte : t = y1.length := by omega
          have HLok : Hid (LabelsOk y1) := by show LabsTo y1 y1.length; rw [← hte]; exact HR2.out
          generalize wr = W1 at *
          have k1 := (HB2.out.cell (p := ⟨b, o + k * 2, none⟩) hbw).trans c1
          have k2 := (HB2.out.cell (p := ⟨b, o + k * 2 + 1, none⟩) hbw).trans c2
          have hbw1 : b < W1.heap.size := by omega
          clear c1 c2 HR2 hte
          by_cases h0 : y2.length < 1
          · have hno : ¬ BatchOk bs := fun h => (h.1 k _ hlt HY.out).2.1 (List.eq_nil_of_length_eq_zero (by show y2.length = 0; omega))
            have g0 : (y2.length : Int) < 1 := by omega
            have g0b : y2.length = 0 := by omega
            have g0c : decide (y2.length < 1) = true := decide_eq_true h0
            have HNo := hide hno
            clear hno HR HY
            go_wp2
            go_ret
            exact ⟨BoolOf.no HNo.out, HBA.out⟩
          have g0 : ¬ (y2.length : Int) < 1 := by omega
          have g0b : ¬ y2.length = 0 := by omega
          have g0c : decide (y2.length < 1) = false := decide_eq_false h0
          have g0d : decide ((y2.length : Int) < 1) = false := decide_eq_false g0
          go_wp2
          go_loopw [6] (fun q wr3 => ∃ t : Nat, 1 ≤ t ∧ t ≤ y2.length ∧ q = .int .i64 t ∧ Below W1.heap.size W1 wr3 ∧ Hid (RisesTo y2 t)) (fun q _ => y2.length - (intOf q).toNat)
          case atStart => exact ⟨1, by omega, by omega, rfl, Below.refl _ _, rises_one y2⟩
          case round =>
            obtain ⟨u, hu1, hu, rfl, hb3, HR3⟩ := hrel
            have hsz3 := hb3.size
            have HB3 := hide hb3
            have HBC := hide (HBA.out.trans (hb3.mono (by omega)))
            have m1 := (hb3.cell (p := ⟨b, o + k * 2, none⟩) hbw1).trans k1
            have m2 := (hb3.cell (p := ⟨b, o + k * 2 + 1, none⟩) hbw1).trans k2
            have hbw3 : b < wr.heap.size := by omega
            clear hb3
            by_cases hlt3 : u < y2.length
            · obtain ⟨j, rfl⟩ : ∃ j, u = j + 1 := ⟨u - 1, by omega⟩
              obtain ⟨⟨x1, x2⟩, hx⟩ : ∃ x, y2[j]? = some x := ⟨_, List.getElem?_eq_getElem (by omega)⟩
              obtain ⟨⟨z1, z2⟩, hz⟩ : ∃ x, y2[j + 1]? = some x := ⟨_, List.getElem?_eq_getElem (by omega)⟩
              have KS3 := (HSa.out.below HB2.out (by omega)).below HB3.out (by omega)
              obtain ⟨sb, so, rfl, hsb, e1, _⟩ := KS3.get hx
              obtain ⟨sb2, so2, hh3, _, e2, _⟩ := KS3.get hz
              cases hh3
              have HX := hide hx
              have HZ := hide hz
              clear hx hz KS3
              simp only at e1 e2
              have hj1 : (j : Int) < (y2.length : Int) := by omega
              have hj2 : (0 : Int) ≤ (j : Int) := by omega
              have hjw : IntKind.i64.wrap (j : Int) = (j : Int) := by rw [IntKind.wrap_i64]; omega
              have hjw2 : IntKind.i64.wrap (((j + 1 : Nat) : Int) - 1) = (j : Int) := by rw [IntKind.wrap_i64]; omega
              by_cases hge : z1 ≤ x1
              · have hno : ¬ BatchOk bs := fun h => by have h4 : x1 < z1 := (h.1 k _ hlt HY.out).2.2 j _ _ (by omega) HX.out HZ.out; omega
                have HNo := hide hno
                clear hno HR HY HX HZ HR3
                go_wp2
                go_quiet (fail)
                go_wp2
                go_ret
                exact ⟨BoolOf.no HNo.out, below_drewN HBC.out _⟩
              · have HR4 := hide (rises_more HR3.out HX.out HZ.out (by show x1 < z1; omega))
                clear HR3 HX HZ
                go_wp2
                go_quiet (fail)
                go_wp2
                go_roundw
                case rel => exact ⟨j + 2, by omega, by omega, by go_num, below_drewN HB3.out _, HR4.out⟩
                case measure => simp [intOf]; omega
            · have hue : u = y2.length := by omega
              have HSok : Hid (SamplesOk y2) := ⟨fun e => by rw [e] at h0; exact h0 (by simp), by rw [← hue]; exact HR3.out⟩
              clear HR3 hue
              cases k with
              | zero =>
                go_wp2
                go_roundw
                case rel => exact ⟨1, by omega, by go_num, HBC.out, HR.out.one HY.out HLok.out HSok.out⟩
                case measure => simp [intOf]; omega
              | succ j =>
                obtain ⟨⟨x1, x2⟩, hx⟩ : ∃ x, bs[j]? = some x := ⟨_, List.getElem?_eq_getElem (by omega)⟩
                have K3 := (HKS.out.below HB2.out (by omega)).below HB3.out (by omega)
                obtain ⟨b2, o2, la2, lc2, sa2, sc2, hh2, hb2, d1, _, hL2, _⟩ := K3.get hx
                cases hh2
                have hLy := (HLa.out.below HB2.out (by omega)).below HB3.out (by omega)
                have C := hide (refOrder_any B _ _ x1 y1 wr hL2 hLy (by omega) (HSm.out.labels _ (List.mem_of_getElem? hx)))
                have HX := hide hx
                clear hx K3 hL2 hLy
                simp only at d1
                have hj0 : (0 : Int) < ((j + 1 : Nat) : Int) := by omega
                have hj1 : (j : Int) < (bs.length : Int) := by omega
                have hj2 : (0 : Int) ≤ (j : Int) := by omega
                have hjw : IntKind.i64.wrap (j : Int) = (j : Int) := by rw [IntKind.wrap_i64]; omega
                have hjw2 : IntKind.i64.wrap (((j + 1 : Nat) : Int) - 1) = (j : Int) := by rw [IntKind.wrap_i64]; omega
                generalize hcq : cmpLabs x1 y1 = q at *
                have HQ : Hid (cmpLabs x1 y1 = q) := hcq
                clear hcq
                go_wp2_with fail
                refine C.out.mono ?_
                rintro e w4 ⟨rfl, hb4⟩
                have HB4 := hide (HBC.out.trans (hb4.mono (by omega)))
                clear hb4 m1 m2 d1 C
                by_cases hc : 0 ≤ q
                · have hno : ¬ BatchOk bs := fun h => by have h2 : cmpLabs x1 y1 < 0 := h.2 j _ _ (by omega) HX.out HY.out; rw [HQ.out] at h2; omega
                  have HNo := hide hno
                  clear hno HR HY HX
                  go_wp2
                  go_ret
                  exact ⟨BoolOf.no HNo.out, HB4.out⟩
                · have HR5 := hide (HR.out.succ HX.out HY.out HLok.out HSok.out (by show cmpLabs x1 y1 < 0; rw [HQ.out]; omega))
                  clear HR HY HX
                  go_wp2
                  go_roundw
                  case rel => exact ⟨j + 2, by omega, by go_num, HB4.out, HR5.out⟩
                  case measure => simp [intOf]; omega
    · have hke : k = bs.length := by omega
      have HY : Hid (BatchOk bs) := by show BatTo bs bs.length; rw [← hke]; exact HR.out
      clear hke
      go_wp2
      go_ret
      exact ⟨BoolOf.yes HY.out, HBl.out⟩
end Go.Proofs.Ytcidgfdiacehmaa

/- The law's book of lists that came out: what it holds; mark. -/
namespace Go.Proofs.Ytcidgfdiacehmaa
open Go.RowKit Go.Lib

/-- The text of a mark. -/
def markT (n : Nat) : ByteArray := ⟨#[109, 97, 114, 107]⟩ ++ ⟨#[UInt8.ofNat (n % 256), UInt8.ofNat (n / 256 % 256)]⟩
/-- n pairs alike. -/
def rep (n : Nat) (c d : Value) : List Value := serCells (List.replicate n (c, d))
theorem rep_length (n : Nat) (c d : Value) : (rep n c d).length = 2 * n := by rw [rep, serCells_length, List.length_replicate]
theorem rep_get {n j : Nat} (c d : Value) (h : j < n) : (rep n c d)[j * 2]? = some c ∧ (rep n c d)[j * 2 + 1]? = some d :=
  serCells_get (p := (c, d)) (by rw [List.getElem?_replicate]; simp [h])
def LabM (w : World) (v : Value) (key : ByteArray) : Prop := ∃ n, w.ownsRow 0 60 2 v n (rep n (.string key) (.string ByteArray.empty))
def SamM (w : World) (v : Value) (t : Int) : Prop := ∃ n, w.ownsRow 0 33 2 v n (rep n (.int .i64 t) (.int .u64 0))
def SerM (w : World) (K : Nat → Prop) (v : Value) (key : ByteArray) : Prop :=
  ∃ n lz, w.ownsRow 0 37 2 v n (rep n lz (.slice none 0 0)) ∧ w.ownsRow 0 60 2 lz 1 (rep 1 (.string key) (.string ByteArray.empty)) ∧ ∀ k, lz.ownBlock = some k → K k
/-- v lives in blocks of K alone. -/
def In (K : Nat → Prop) (v : Value) : Prop := ∀ k, v.ownBlock = some k → K k
/-- A row of n lists, each as P says. -/
def RowM (w : World) (K : Nat → Prop) (T : Nat) (P : Nat → Value → Prop) (v : Value) (n : Nat) : Prop :=
  ∃ vals : List Value, w.ownsRow 0 T 1 v n vals ∧ In K v ∧ ∀ i u, vals[i]? = some u → P i u ∧ In K u
/-- The book. -/
structure Book (w : World) (kb : Nat) (K : Nat → Prop) (sv lv mv : Value) (ns nl nm : Nat) : Prop where
  lt : ∀ k, K k → k < w.heap.size
  kin : K kb
  blk : w.heap[kb]? = some (.cells #[sv, lv, mv, .slice none 0 0] 29)
  ser : RowM w K 22 (fun i u => SerM w K u (markT (i / 4 * 4))) sv ns
  lab : RowM w K 35 (fun i u => LabM w u (markT (i / 4 * 4))) lv nl
  sam : RowM w K 34 (fun i u => SamM w u (1000 + ((i / 4 * 4 : Nat) : Int))) mv nm
theorem LabM.kept {w w' : World} {K : Nat → Prop} {v : Value} {key : ByteArray} (h : LabM w v key) (hi : In K v) (hk : ∀ k, K k → w'.heap[k]? = w.heap[k]?) : LabM w' v key := by
  obtain ⟨n, h⟩ := h
  exact ⟨n, own_kept h fun k e => hk k (hi k e)⟩
theorem SamM.kept {w w' : World} {K : Nat → Prop} {v : Value} {t : Int} (h : SamM w v t) (hi : In K v) (hk : ∀ k, K k → w'.heap[k]? = w.heap[k]?) : SamM w' v t := by
  obtain ⟨n, h⟩ := h
  exact ⟨n, own_kept h fun k e => hk k (hi k e)⟩
theorem SerM.kept {w w' : World} {K K' : Nat → Prop} {v : Value} {key : ByteArray} (h : SerM w K v key) (hi : In K v) (hk : ∀ k, K k → w'.heap[k]? = w.heap[k]?) (hK : ∀ k, K k → K' k) : SerM w' K' v key := by
  obtain ⟨n, lz, h1, h2, h3⟩ := h
  exact ⟨n, lz, own_kept h1 fun k e => hk k (hi k e), own_kept h2 fun k e => hk k (h3 k e), fun k e => hK k (h3 k e)⟩
theorem RowM.kept {w w' : World} {K K' : Nat → Prop} {T n : Nat} {P Q : Nat → Value → Prop} {v : Value} (h : RowM w K T P v n) (hk : ∀ k, K k → w'.heap[k]? = w.heap[k]?) (hK : ∀ k, K k → K' k) (hp : ∀ i u, In K u → P i u → Q i u) : RowM w' K' T Q v n := by
  obtain ⟨vals, h1, h2, h3⟩ := h
  exact ⟨vals, own_kept h1 fun k e => hk k (h2 k e), fun k e => hK k (h2 k e), fun i u hu => ⟨hp i u (h3 i u hu).2 (h3 i u hu).1, fun k e => hK k ((h3 i u hu).2 k e)⟩⟩
theorem Book.kept {w w' : World} {kb : Nat} {K K' : Nat → Prop} {sv lv mv : Value} {ns nl nm : Nat} (h : Book w kb K sv lv mv ns nl nm) (hk : ∀ k, K k → w'.heap[k]? = w.heap[k]?) (hK : ∀ k, K k → K' k) (hl : ∀ k, K' k → k < w'.heap.size) : Book w' kb K' sv lv mv ns nl nm :=
  ⟨hl, hK _ h.kin, (hk _ h.kin).trans h.blk, h.ser.kept hk hK fun _ _ hi hu => hu.kept hi hk hK, h.lab.kept hk hK fun _ _ hi hu => hu.kept hi hk, h.sam.kept hk hK fun _ _ hi hu => hu.kept hi hk⟩
theorem Book.below {w w' : World} {kb : Nat} {K : Nat → Prop} {sv lv mv : Value} {ns nl nm : Nat} (h : Book w kb K sv lv mv ns nl nm) (hb : Below w.heap.size w w') : Book w' kb K sv lv mv ns nl nm :=
  h.kept (fun k hk => hb.block k (h.lt k hk)) (fun _ h => h) (fun k hk => Nat.lt_of_lt_of_le (h.lt k hk) hb.size)
theorem Book.cells {w : World} {kb : Nat} {K : Nat → Prop} {sv lv mv : Value} {ns nl nm : Nat} (h : Book w kb K sv lv mv ns nl nm) : w.cell? ⟨kb, 0, none⟩ = some sv ∧ w.cell? ⟨kb, 1, none⟩ = some lv ∧ w.cell? ⟨kb, 2, none⟩ = some mv ∧ w.cell? ⟨kb, 3, none⟩ = some (.slice none 0 0) ∧ kb < w.heap.size :=
  ⟨cell_of_row w kb 0 _ _ (0, 0) h.blk, cell_of_row w kb 1 _ _ (0, 0) h.blk, cell_of_row w kb 2 _ _ (0, 0) h.blk, cell_of_row w kb 3 _ _ (0, 0) h.blk, (Array.getElem?_eq_some_iff.1 h.blk).1⟩
/-- The value at a row's place. -/
theorem RowM.get {w : World} {K : Nat → Prop} {T n : Nat} {P : Nat → Value → Prop} {v : Value} (h : RowM w K T P v n) {i : Nat} (hi : i < n) : ∃ g cap u, v = .slice (some ⟨g, 0, none⟩) n cap ∧ w.cell? ⟨g, i, none⟩ = some u ∧ g < w.heap.size ∧ P i u ∧ In K u := by
  obtain ⟨vals, h1, h2, h3⟩ := h
  obtain ⟨g, cap, rfl, _⟩ := ownsRow_some h1 (by omega)
  have hl : vals.length = n := by have := h1.1; omega
  obtain ⟨u, hu⟩ : ∃ u, vals[i]? = some u := ⟨_, List.getElem?_eq_getElem (by omega)⟩
  exact ⟨g, cap, u, rfl, own_cell h1 hu, (World.ownsRow.lt h1 g rfl).2, (h3 i u hu).1, (h3 i u hu).2⟩
theorem RowM.shape {w : World} {K : Nat → Prop} {T n : Nat} {P : Nat → Value → Prop} {v : Value} (h : RowM w K T P v n) : ∃ a c, v = .slice a n c := by
  obtain ⟨vals, h1, _⟩ := h
  exact own_shape h1
/-- A pair of a row of pairs alike. -/
theorem rep_cell {w : World} {base e n : Nat} {v c d : Value} (h : w.ownsRow base e 2 v n (rep n c d)) {j : Nat} (hj : j < n) : ∃ g cap, v = .slice (some ⟨g, 0, none⟩) n cap ∧ w.cell? ⟨g, j * 2, none⟩ = some c ∧ w.cell? ⟨g, j * 2 + 1, none⟩ = some d := by
  rcases h.2 with ⟨_, h0⟩ | ⟨g, cap, cur, rfl, _⟩
  · omega
  · exact ⟨g, cap, rfl, own_cell h (rep_get c d hj).1, own_cell h (rep_get c d hj).2⟩
theorem conv_two (W : World) (g c n m : Nat) (h : n < 256) (h' : m < 256) (hc : W.cell? ⟨g, 0, none⟩ = some (.int .u8 n)) (hc' : W.cell? ⟨g, 1, none⟩ = some (.int .u8 m)) :
    (convert 77 9 (.slice (some ⟨g, 0, none⟩) 2 c)).run Try.prog W = .ok (.string ⟨#[UInt8.ofNat n, UInt8.ofNat m]⟩) W := by
  refine run_convert_bytes_back (P := Try.prog) W 77 9 5 ⟨g, 0, none⟩ c [UInt8.ofNat n, UInt8.ofNat m] Try.underlying77 Try.underlying5 Try.underlying9 (fun j hj => ?_)
  match j, hj with
  | 0, _ =>
    show W.cell? ⟨g, 0, none⟩ = some (.int .u8 ((UInt8.ofNat n).toNat : Int))
    rw [hc]; simp; omega
  | 1, _ =>
    show W.cell? ⟨g, 1, none⟩ = some (.int .u8 ((UInt8.ofNat m).toNat : Int))
    rw [hc']; simp; omega
  | j + 2, hj => simp at hj; omega
set_option maxRecDepth 100000 in
theorem mark_any (n : Nat) (w : World) (hn : n ≤ 1000000000) :
    Calls Try.prog 30 #[.int .i64 n] w fun e w' => e = .returned (.string (markT n)) ∧ Below w.heap.size w w' := by
  have e1 : (n : Int) % 256 = ((n % 256 : Nat) : Int) := by omega
  have e2 : (n : Int) / 256 % 256 = ((n / 256 % 256 : Nat) : Int) := by omega
  have hcv := conv_two (w.alloc (.cells #[.int .u8 ((n % 256 : Nat) : Int), .int .u8 ((n / 256 % 256 : Nat) : Int)] 5)) w.heap.size 2 (n % 256) (n / 256 % 256) (by omega) (by omega) (World.cell?_alloc_new _ _ _ 0) (World.cell?_alloc_new _ _ _ 1)
  rw [← e1, ← e2] at hcv
  clear e1 e2
  go_enter Try.func30, Try.ntmps30
  go_wp2
  go_ret
  exact ⟨rfl, (Below.refl _ _).alloc (Nat.le_refl _) _⟩
end Go.Proofs.Ytcidgfdiacehmaa

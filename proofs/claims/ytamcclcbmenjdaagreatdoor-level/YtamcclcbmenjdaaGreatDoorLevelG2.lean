/- 'choirkeep.Level', for any list of steps (100 of them are done): when all are up, nothing is under way, and each has told each other one, all have the same, and compacted logs are the same bytes. The first form's statement and its card: no condition beside the row's own. -/
import Derived.Test.YtamcclcbmenjdaaGreatDoorLevelG1
import Derived.Test.YtamcclcbmenjdaaGreatDoorShelf
/- cmp.Or, compareLabel, CompareLabels. -/
namespace Go.Proofs.YtamcclcbmenjdaaGreatDoor
open Go.RowKit Go.Lib

set_option maxHeartbeats 400000 in
theorem cmpOr_any (b o c : Nat) (x y : Int) (w : World) (hx : w.cell? ⟨b, o, none⟩ = some (.int .i64 x)) (hy : w.cell? ⟨b, o + 1, none⟩ = some (.int .i64 y)) :
    Calls Tryz.prog 169 #[.slice (some ⟨b, o, none⟩) 2 c] w fun e w' => e = .returned (.int .i64 (if x = 0 then y else x)) ∧ w' = w := by
  by_cases h0 : x = 0
  · subst h0
    by_cases h1 : y = 0
    · subst h1
      go_enter Tryz.func169, Tryz.ntmps169
      go_wp2
      refine wp_loop_rounds 3 ?_
      rw [rounds_succ]
      go_wp2
      rw [rounds_succ]
      go_wp2
      rw [rounds_succ]
      go_wp2
      go_ret
      exact ⟨rfl, rfl⟩
    · have hb : (y != 0) = true := by simpa using h1
      go_enter Tryz.func169, Tryz.ntmps169
      go_wp2
      refine wp_loop_rounds 3 ?_
      rw [rounds_succ]
      go_wp2
      rw [rounds_succ]
      go_wp2
      go_ret
      exact ⟨rfl, rfl⟩
  · have hb : (x != 0) = true := by simpa using h0
    go_enter Tryz.func169, Tryz.ntmps169
    go_wp2
    refine wp_loop_rounds 3 ?_
    rw [rounds_succ]
    go_wp2
    go_ret
    exact ⟨rfl, rfl⟩

def cmpB (a b : ByteArray) : Int := Lib.compareBytes a.data.toList b.data.toList
/-- Two labels compared: a key ahead of its value. -/
def cmpLab (x y : Lab) : Int := if cmpB x.1 y.1 = 0 then cmpB x.2 y.2 else cmpB x.1 y.1

set_option maxRecDepth 100000 in
set_option maxHeartbeats 400000 in
theorem compareLabel_any (x y : Lab) (w : World) :
    Calls Tryz.prog 148 #[.agg #[.string x.1, .string x.2], .agg #[.string y.1, .string y.2]] w fun e w' => e = .returned (.int .i64 (cmpLab x y)) ∧ Below w.heap.size w w' := by
  obtain ⟨a, b⟩ := x
  obtain ⟨c, d⟩ := y
  have C := hide (fun (s t : ByteArray) (W : World) => Tryz.strings_Compare s t W)
  have CO : Hid (∀ (W : World), W.cell? ⟨w.heap.size + 2, 0, none⟩ = some (.int .i64 (Lib.compareBytes a.data.toList c.data.toList)) → W.cell? ⟨w.heap.size + 2, 1, none⟩ = some (.int .i64 (Lib.compareBytes b.data.toList d.data.toList)) → Calls Tryz.prog 169 #[.slice (some ⟨w.heap.size + 2, 0, none⟩) 2 2] W fun e w' => e = .returned (.int .i64 (cmpLab (a, b) (c, d))) ∧ w' = W) := fun W h1 h2 => cmpOr_any (w.heap.size + 2) 0 2 _ _ W h1 h2
  have HL : Hid (cmpLab (a, b) (c, d) = if cmpB a c = 0 then cmpB b d else cmpB a c) := rfl
  go_enter Tryz.func148, Tryz.ntmps148
  go_wp2
  as_aux_lemma =>
    go_region_held3 (fun w' => w'.cell? ⟨w.heap.size, 0, none⟩ = some (.string a) ∧ w'.cell? ⟨w.heap.size, 1, none⟩ = some (.string b) ∧ w'.cell? ⟨w.heap.size + 1, 0, none⟩ = some (.string c) ∧ w'.cell? ⟨w.heap.size + 1, 1, none⟩ = some (.string d)) (go_keep) (first | (go_at_call 170; refine (C.out _ _ _).mono ?_; rintro e w' ⟨rfl, rfl⟩) | (go_at_call 169; refine (CO.out _ (by simp; rw [World.cell?_alloc_at _ _ _ _ (by simp)]; rfl) (by simp; rw [World.cell?_alloc_at _ _ _ _ (by simp)]; rfl)).mono ?_; rintro e w' ⟨rfl, rfl⟩))
    all_goals
      go_wp2
      go_ret
      exact ⟨rfl, ((((Below.refl _ _).alloc (Nat.le_refl _) _).alloc (by simp) _).alloc (by simp; omega) _).drew⟩

/-- Two lists of labels compared. -/
def cmpLabs : List Lab → List Lab → Int
  | [], [] => 0
  | [], _ :: _ => -1
  | _ :: _, [] => 1
  | x :: r, y :: q => if cmpLab x y = 0 then cmpLabs r q else cmpLab x y

theorem cmpLabs_drop {l m : List Lab} {k : Nat} {x y : Lab} (hx : l[k]? = some x) (hy : m[k]? = some y) : cmpLabs (l.drop k) (m.drop k) = if cmpLab x y = 0 then cmpLabs (l.drop (k + 1)) (m.drop (k + 1)) else cmpLab x y := by
  obtain ⟨h1, e1⟩ := List.getElem?_eq_some_iff.1 hx
  obtain ⟨h2, e2⟩ := List.getElem?_eq_some_iff.1 hy
  rw [List.drop_eq_getElem_cons h1, List.drop_eq_getElem_cons h2, e1, e2, cmpLabs]

theorem cmpLabs_end1 {l m : List Lab} {k : Nat} {x : Lab} (hm : m.length ≤ k) (hx : l[k]? = some x) : cmpLabs (l.drop k) (m.drop k) = 1 := by
  obtain ⟨h1, e1⟩ := List.getElem?_eq_some_iff.1 hx
  have e2 : m.drop k = [] := List.drop_eq_nil_of_le hm
  rw [List.drop_eq_getElem_cons h1, e2]; rfl
theorem cmpLabs_end2 {l m : List Lab} {k : Nat} (hl : k = l.length) (hm : k ≤ m.length) : cmpLabs (l.drop k) (m.drop k) = if l.length < m.length then -1 else 0 := by
  have e1 : l.drop k = [] := List.drop_eq_nil_of_le (by omega)
  rw [e1]
  by_cases h : l.length < m.length
  · rw [if_pos h, List.drop_eq_getElem_cons (show k < m.length by omega)]; rfl
  · have e2 : m.drop k = [] := List.drop_eq_nil_of_le (by omega)
    rw [if_neg h, e2]; rfl

set_option maxRecDepth 100000 in
set_option maxHeartbeats 400000 in
theorem compareFunc_any (B : Nat) (u v : Value) (l m : List Lab) (w : World) (hl : LabelsAt w B u l) (hm : LabelsAt w B v m) (hB : B ≤ w.heap.size) (hll : l.length ≤ 10000000000000) :
    Calls Tryz.prog 129 #[u, v] w fun e w' => e = .returned (.int .i64 (cmpLabs l m)) ∧ Below w.heap.size w w' := by
  obtain ⟨la, lc, rfl, _⟩ := id hl
  obtain ⟨ma, mc, rfl, _⟩ := id hm
  have HL := hide hl
  have HM := hide hm
  clear hl hm
  go_enter Tryz.func129, Tryz.ntmps129
  go_wp2_with go_in
  go_loopw [7, 8, 9, 10, 13] (fun _ _ _ _ i wr => ∃ k : Nat, k ≤ l.length ∧ k ≤ m.length ∧ i = .int .i64 k ∧ Below w.heap.size w wr ∧ Hid (cmpLabs l m = cmpLabs (l.drop k) (m.drop k))) (fun _ _ _ _ i _ => l.length - (intOf i).toNat)
  case atStart => exact ⟨0, Nat.zero_le _, Nat.zero_le _, rfl, Below.refl _ _, rfl⟩
  case round =>
    obtain ⟨k, hk, hkm, rfl, hbl, HE⟩ := hrel
    have hsz := hbl.size
    have HBl := hide hbl
    clear hbl
    by_cases hlt : k < l.length
    · obtain ⟨x, hx⟩ : ∃ x, l[k]? = some x := ⟨_, List.getElem?_eq_getElem hlt⟩
      obtain ⟨b, o, rfl, hb, c1, c2⟩ := (HL.out.below HBl.out hB).get hx
      have hbw : b < wr.heap.size := by omega
      by_cases hltm : k < m.length
      · obtain ⟨y, hy⟩ : ∃ y, m[k]? = some y := ⟨_, List.getElem?_eq_getElem hltm⟩
        obtain ⟨b', o', rfl, hb', d1, d2⟩ := (HM.out.below HBl.out hB).get hy
        have hbw' : b' < wr.heap.size := by omega
        have HD := hide (cmpLabs_drop hx hy)
        obtain ⟨x1, x2⟩ := x
        obtain ⟨y1, y2⟩ := y
        clear hx hy
        go_wp2_with fail
        refine (compareLabel_any (x1, x2) (y1, y2) _).mono ?_
        rintro e w2 ⟨rfl, hb2⟩
        have HB2 := hide (((HBl.out.alloc hsz _).alloc (by simp; omega) _).trans (hb2.mono (by simp; omega)))
        clear hb2 HBl
        generalize cmpLab (x1, x2) (y1, y2) = q at *
        by_cases hq : q = 0
        · subst hq
          go_wp2
          go_roundw
          case rel => exact ⟨k + 1, by omega, by omega, by go_num, HB2.out, by show _ = _; rw [HE.out, HD.out, if_pos trivial]⟩
          case measure => simp [intOf]; omega
        · have hqb : (q != 0) = true := by simpa using hq
          go_wp2
          go_ret
          exact ⟨ret_int (by rw [HE.out, HD.out, if_neg hq]), HB2.out⟩
      · obtain ⟨x1, x2⟩ := x
        have hme : m.length ≤ k := by omega
        have hend : cmpLabs l m = 1 := HE.out.trans (cmpLabs_end1 hme hx)
        have HEnd := hide hend
        clear hx hend
        go_wp2
        go_ret
        exact ⟨ret_int HEnd.out.symm, HBl.out.alloc hsz _⟩
    · have hend : cmpLabs l m = if l.length < m.length then -1 else 0 := HE.out.trans (cmpLabs_end2 (by omega) (by omega))
      have HEnd := hide hend
      clear hend
      by_cases hlm : l.length < m.length
      · rw [if_pos hlm] at HEnd
        go_wp2
        go_ret
        exact ⟨ret_int HEnd.out.symm, HBl.out⟩
      · rw [if_neg hlm] at HEnd
        go_wp2
        go_ret
        exact ⟨ret_int HEnd.out.symm, HBl.out⟩
end Go.Proofs.YtamcclcbmenjdaaGreatDoor

/- areSamples. -/
namespace Go.Proofs.YtamcclcbmenjdaaGreatDoor
open Go.RowKit Go.Lib

/-- The first k samples rise by their times. -/
def RisesTo (l : List (Int × Nat)) (k : Nat) : Prop := ∀ i x y, i + 1 < k → l[i]? = some x → l[i + 1]? = some y → x.1 < y.1
def SamplesOk (l : List (Int × Nat)) : Prop := l ≠ [] ∧ RisesTo l l.length
theorem RisesTo.succ {l : List (Int × Nat)} {k : Nat} {x y : Int × Nat} (h : RisesTo l (k + 1)) (hx : l[k]? = some x) (hy : l[k + 1]? = some y) (hlt : x.1 < y.1) : RisesTo l (k + 2) := by
  intro i u v hi hu hv
  by_cases he : i = k
  · subst he
    rw [hx] at hu; rw [hy] at hv
    cases hu; cases hv; exact hlt
  · exact h i u v (by omega) hu hv
theorem SamplesAt.get {w : World} {B : Nat} {a : Option Addr} {n c : Nat} {l : List (Int × Nat)} (h : SamplesAt w B (.slice a n c) l) {k : Nat} {x : Int × Nat} (hx : l[k]? = some x) :
    ∃ b o, a = some ⟨b, o, none⟩ ∧ b < B ∧ w.cell? ⟨b, o + k * 2, none⟩ = some (.int .i64 x.1) ∧ w.cell? ⟨b, o + k * 2 + 1, none⟩ = some (.int .u64 x.2) := by
  obtain ⟨a', c', hv, _, _, h2⟩ := h
  cases hv
  rcases h2 with h2 | ⟨b, o, ha, hb, hc⟩
  · rw [h2] at hx; cases hx
  · exact ⟨b, o, ha, hb, (hc k x hx).1, (hc k x hx).2⟩

theorem ok_end {l : List (Int × Nat)} (h : RisesTo l l.length) : decide (0 < l.length) = true ↔ SamplesOk l := by
  rw [decide_eq_true_iff]
  constructor
  · intro hl
    exact ⟨by intro e; rw [e] at hl; simp at hl, h⟩
  · rintro ⟨hl, _⟩
    exact List.length_pos_iff.2 hl

set_option maxRecDepth 100000 in
set_option maxHeartbeats 400000 in
theorem areSamples_any (B : Nat) (v : Value) (l : List (Int × Nat)) (w : World) (hS : SamplesAt w B v l) (hB : B ≤ w.heap.size) (hll : l.length ≤ 10000000000000) :
    Calls Tryz.prog 128 #[v] w fun e w' => (∃ r, e = .returned (.bool r) ∧ (r = true ↔ SamplesOk l)) ∧ Below w.heap.size w w' := by
  obtain ⟨a, c, rfl, _⟩ := id hS
  have HS := hide hS
  clear hS
  go_enter Tryz.func128, Tryz.ntmps128
  go_wp2
  go_loopw [3, 4, 7] (fun _ _ i wr => ∃ k : Nat, k ≤ l.length ∧ i = .int .i64 k ∧ Below w.heap.size w wr ∧ Hid (RisesTo l k)) (fun _ _ i _ => l.length - (intOf i).toNat)
  case atStart => exact ⟨0, Nat.zero_le _, rfl, Below.refl _ _, fun i x y h => by omega⟩
  case round =>
    obtain ⟨k, hk, rfl, hbl, HR⟩ := hrel
    have hsz := hbl.size
    have HBl := hide hbl
    clear hbl
    by_cases hlt : k < l.length
    · obtain ⟨y, hy⟩ : ∃ y, l[k]? = some y := ⟨_, List.getElem?_eq_getElem hlt⟩
      have KS := HS.out.below HBl.out hB
      obtain ⟨b, o, rfl, hb, c1, c2⟩ := KS.get hy
      have hbw : b < wr.heap.size := by omega
      have HY := hide hy
      clear hy
      cases k with
      | zero =>
        simp only [Nat.zero_mul, Nat.add_zero] at c1 c2
        go_wp2
        go_quiet (fail)
        go_wp2
        go_roundw
        case rel => exact ⟨1, by omega, by go_num, below_drewN (HBl.out.alloc hsz _) _, fun i x y h => by omega⟩
        case measure => simp [intOf]; omega
      | succ j =>
        obtain ⟨x, hx⟩ : ∃ x, l[j]? = some x := ⟨_, List.getElem?_eq_getElem (by omega)⟩
        obtain ⟨b2, o2, h2, _, d1, _⟩ := KS.get hx
        cases h2
        have HX := hide hx
        clear hx
        by_cases hge : y.1 ≤ x.1
        · go_wp2
          go_quiet (fail)
          go_wp2
          go_ret
          refine ⟨⟨false, rfl, ?_⟩, below_drewN (HBl.out.alloc hsz _) _⟩
          refine ⟨fun h => absurd h (by decide), fun h => ?_⟩
          have := h.2 j x y (by omega) HX.out HY.out
          omega
        · have hge2 : decide (y.1 ≤ x.1) = false := decide_eq_false hge
          go_wp2
          go_quiet (fail)
          go_wp2
          go_roundw
          case rel => exact ⟨j + 2, by omega, by go_num, below_drewN (HBl.out.alloc hsz _) _, HR.out.succ HX.out HY.out (by omega)⟩
          case measure => simp [intOf]; omega
    · have hke : k = l.length := by omega
      go_wp2
      go_ret
      refine ⟨⟨_, rfl, ?_⟩, HBl.out⟩
      have hR : RisesTo l l.length := by rw [← hke]; exact HR.out
      exact ok_end hR
end Go.Proofs.YtamcclcbmenjdaaGreatDoor

/- areLabels. -/
namespace Go.Proofs.YtamcclcbmenjdaaGreatDoor
open Go.RowKit Go.Lib

/-- The answer is a bool that says p. -/
def BoolOf (e : Ending) (p : Prop) : Prop := ∃ r, e = .returned (.bool r) ∧ (r = true ↔ p)
theorem BoolOf.yes {p : Prop} (h : p) : BoolOf (.returned (.bool true)) p := ⟨true, rfl, fun _ => h, fun _ => rfl⟩
theorem BoolOf.no {p : Prop} (h : ¬ p) : BoolOf (.returned (.bool false)) p := ⟨false, rfl, fun e => absurd e (by decide), fun e => absurd e h⟩
def KeyOk (x : Lab) : Prop := x.1.toList.isEmpty = false ∧ x.1.size ≤ 16 ∧ x.2.size ≤ 16
/-- The first k labels are in order. -/
def LabsTo (l : List Lab) (k : Nat) : Prop := (∀ i x, i < k → l[i]? = some x → KeyOk x) ∧ ∀ i x y, i + 1 < k → l[i]? = some x → l[i + 1]? = some y → Op.bytesLess x.1.toList y.1.toList = true
def LabelsOk (l : List Lab) : Prop := LabsTo l l.length

theorem LabsTo.one {l : List Lab} {y : Lab} (_ : LabsTo l 0) (hk : KeyOk y) (hy : l[0]? = some y) : LabsTo l 1 := by
  refine ⟨fun i x hi hx => ?_, fun i x y h => by omega⟩
  obtain rfl : i = 0 := by omega
  rw [hy] at hx; cases hx; exact hk
theorem LabsTo.succ {l : List Lab} {k : Nat} {x y : Lab} (h : LabsTo l (k + 1)) (hx : l[k]? = some x) (hy : l[k + 1]? = some y) (hk : KeyOk y) (hlt : Op.bytesLess x.1.toList y.1.toList = true) : LabsTo l (k + 2) := by
  refine ⟨fun i u hi hu => ?_, fun i u v hi hu hv => ?_⟩
  · by_cases he : i = k + 1
    · subst he; rw [hy] at hu; cases hu; exact hk
    · exact h.1 i u (by omega) hu
  · by_cases he : i = k
    · subst he
      rw [hx] at hu; rw [hy] at hv
      cases hu; cases hv; exact hlt
    · exact h.2 i u v (by omega) hu hv

set_option maxRecDepth 100000 in
set_option maxHeartbeats 400000 in
theorem areLabels_any (B : Nat) (v : Value) (l : List Lab) (w : World) (hS : LabelsAt w B v l) (hB : B ≤ w.heap.size) (hll : l.length ≤ 10000000000000) :
    Calls Tryz.prog 127 #[v] w fun e w' => BoolOf e (LabelsOk l) ∧ Below w.heap.size w w' := by
  obtain ⟨a, c, rfl, _⟩ := id hS
  have HS := hide hS
  clear hS
  go_enter Tryz.func127, Tryz.ntmps127
  go_wp2
  go_loopw [3, 4, 7] (fun _ _ i wr => ∃ k : Nat, k ≤ l.length ∧ i = .int .i64 k ∧ Below w.heap.size w wr ∧ Hid (LabsTo l k)) (fun _ _ i _ => l.length - (intOf i).toNat)
  case atStart => exact ⟨0, Nat.zero_le _, rfl, Below.refl _ _, ⟨fun i x h => by omega, fun i x y h => by omega⟩⟩
  case round =>
    obtain ⟨k, hk, rfl, hbl, HR⟩ := hrel
    have hsz := hbl.size
    have HBl := hide hbl
    clear hbl
    by_cases hlt : k < l.length
    · obtain ⟨⟨y1, y2⟩, hy⟩ : ∃ y, l[k]? = some y := ⟨_, List.getElem?_eq_getElem hlt⟩
      have KS := HS.out.below HBl.out hB
      obtain ⟨b, o, rfl, hb, c1, c2⟩ := KS.get hy
      have hbw : b < wr.heap.size := by omega
      have HY := hide hy
      clear hy
      have HBA := hide (HBl.out.alloc hsz (.cells #[.string y1, .string y2] 80))
      cases he : y1.toList.isEmpty with
      | true =>
        have hno : ¬ LabelsOk l := fun h => by have := (h.1 k _ hlt HY.out).1; simp [he] at this
        have HNo := hide hno
        clear hno HR HY
        go_wp2
        go_ret
        exact ⟨BoolOf.no HNo.out, HBA.out⟩
      | false =>
        by_cases h1 : 16 < y1.size
        · have hno : ¬ LabelsOk l := fun h => by have h2 : y1.size ≤ 16 := (h.1 k _ hlt HY.out).2.1; omega
          have HNo := hide hno
          clear hno HR HY
          go_wp2
          go_ret
          exact ⟨BoolOf.no HNo.out, HBA.out⟩
        · by_cases h2 : 16 < y2.size
          · have hno : ¬ LabelsOk l := fun h => by have h2 : y2.size ≤ 16 := (h.1 k _ hlt HY.out).2.2; omega
            have HNo := hide hno
            clear hno HR HY
            go_wp2
            go_ret
            exact ⟨BoolOf.no HNo.out, HBA.out⟩
          · have hok : KeyOk (y1, y2) := ⟨he, by show y1.size ≤ 16; omega, by show y2.size ≤ 16; omega⟩
            have HOk := hide hok
            clear hok
            cases k with
            | zero =>
              simp only [Nat.zero_mul, Nat.add_zero] at c1 c2
              go_wp2
              go_quiet (fail)
              go_wp2
              go_roundw
              case rel => exact ⟨1, by omega, by go_num, below_drewN HBA.out _, HR.out.one HOk.out HY.out⟩
              case measure => simp [intOf]; omega
            | succ j =>
              obtain ⟨⟨x1, x2⟩, hx⟩ : ∃ x, l[j]? = some x := ⟨_, List.getElem?_eq_getElem (by omega)⟩
              obtain ⟨b2, o2, hh2, _, d1, _⟩ := KS.get hx
              cases hh2
              have HX := hide hx
              clear hx
              cases hless : Op.bytesLess x1.toList y1.toList with
              | false =>
                have hno : ¬ LabelsOk l := fun h => by have := h.2 j _ _ (by omega) HX.out HY.out; simp [hless] at this
                have HNo := hide hno
                clear hno HR
                go_wp2
                go_quiet (fail)
                go_wp2
                go_ret
                exact ⟨BoolOf.no HNo.out, below_drewN HBA.out _⟩
              | true =>
                go_wp2
                go_quiet (fail)
                go_wp2
                go_roundw
                case rel => exact ⟨j + 2, by omega, by go_num, below_drewN HBA.out _, HR.out.succ HX.out HY.out HOk.out hless⟩
                case measure => simp [intOf]; omega
    · have hke : k = l.length := by omega
      have HY : Hid (LabelsOk l) := by show LabsTo l l.length; rw [← hke]; exact HR.out
      clear hke
      go_wp2
      go_ret
      exact ⟨BoolOf.yes HY.out, HBl.out⟩
end Go.Proofs.YtamcclcbmenjdaaGreatDoor

/- withinLimits, isBatch, Check. -/
namespace Go.Proofs.YtamcclcbmenjdaaGreatDoor
open Go.RowKit Go.Lib

theorem BatchAt.get {w : World} {B : Nat} {a : Option Addr} {n c : Nat} {bs : List Ser} (h : BatchAt w B (.slice a n c) bs) {k : Nat} {x : Ser} (hx : bs[k]? = some x) :
    ∃ b o la lc sa sc, a = some ⟨b, o, none⟩ ∧ b < B ∧ w.cell? ⟨b, o + k * 2, none⟩ = some (.slice la x.1.length lc) ∧ w.cell? ⟨b, o + k * 2 + 1, none⟩ = some (.slice sa x.2.length sc) ∧
      LabelsAt w B (.slice la x.1.length lc) x.1 ∧ SamplesAt w B (.slice sa x.2.length sc) x.2 := by
  obtain ⟨a', c', hv, _, h2⟩ := h
  cases hv
  rcases h2 with h2 | ⟨b, o, ha, hb, hc⟩
  · rw [h2] at hx; cases hx
  · obtain ⟨lv, sv, h1, h2, h3, h4⟩ := hc k x hx
    obtain ⟨la, lc, rfl, _⟩ := id h3
    obtain ⟨sa, sc, rfl, _⟩ := id h4
    exact ⟨b, o, la, lc, sa, sc, ha, hb, h1, h2, h3, h4⟩
theorem BatchAt.below {w w' : World} {B B' : Nat} {v : Value} {bs : List Ser} (h : BatchAt w B v bs) (hb : Below B' w w') (hB : B ≤ B') : BatchAt w' B v bs := h.kept fun k hk => hb.block k (by omega)

def LimTo (bs : List Ser) (k : Nat) : Prop := ∀ i x, i < k → bs[i]? = some x → x.1.length ≤ 4 ∧ x.2.length ≤ 40
def LimitsOk (bs : List Ser) : Prop := LimTo bs bs.length ∧ bs.length ≤ 8
theorem LimTo.succ {bs : List Ser} {k : Nat} {y : Ser} (h : LimTo bs k) (hy : bs[k]? = some y) (h1 : y.1.length ≤ 4) (h2 : y.2.length ≤ 40) : LimTo bs (k + 1) := by
  intro i x hi hx
  by_cases he : i = k
  · subst he; rw [hy] at hx; cases hx; exact ⟨h1, h2⟩
  · exact h i x (by omega) hx

set_option maxRecDepth 100000 in
set_option maxHeartbeats 400000 in
theorem withinLimits_any (B : Nat) (v : Value) (bs : List Ser) (w : World) (hS : BatchAt w B v bs) (hB : B ≤ w.heap.size) (hll : bs.length ≤ 10000000000000) :
    Calls Tryz.prog 102 #[v] w fun e w' => BoolOf e (LimitsOk bs) ∧ Below w.heap.size w w' := by
  obtain ⟨a, c, rfl, _⟩ := id hS
  have HS := hide hS
  clear hS
  go_enter Tryz.func102, Tryz.ntmps102
  go_wp2
  go_loopw [4, 7] (fun _ i wr => ∃ k : Nat, k ≤ bs.length ∧ i = .int .i64 k ∧ Below w.heap.size w wr ∧ Hid (LimTo bs k)) (fun _ i _ => bs.length - (intOf i).toNat)
  case atStart => exact ⟨0, Nat.zero_le _, rfl, Below.refl _ _, fun i x h => by omega⟩
  case round =>
    obtain ⟨k, hk, rfl, hbl, HR⟩ := hrel
    have hsz := hbl.size
    have HBl := hide hbl
    clear hbl
    by_cases hlt : k < bs.length
    · obtain ⟨⟨y1, y2⟩, hy⟩ : ∃ y, bs[k]? = some y := ⟨_, List.getElem?_eq_getElem hlt⟩
      obtain ⟨b, o, la, lc, sa, sc, rfl, hb, c1, c2, _, _⟩ := (HS.out.below HBl.out hB).get hy
      have hbw : b < wr.heap.size := by omega
      have HY := hide hy
      have HBA := hide (HBl.out.alloc hsz (.cells #[.slice la y1.length lc, .slice sa y2.length sc] 38))
      clear hy
      simp only at c1 c2
      by_cases h1 : 4 < y1.length
      · have hno : ¬ LimitsOk bs := fun h => by have h2 : y1.length ≤ 4 := (h.1 k _ hlt HY.out).1; omega
        have HNo := hide hno
        clear hno HR HY
        go_wp2
        go_ret
        exact ⟨BoolOf.no HNo.out, HBA.out⟩
      · by_cases h2 : 40 < y2.length
        · have hno : ¬ LimitsOk bs := fun h => by have h2 : y2.length ≤ 40 := (h.1 k _ hlt HY.out).2; omega
          have HNo := hide hno
          clear hno HR HY
          go_wp2
          go_ret
          exact ⟨BoolOf.no HNo.out, HBA.out⟩
        · go_wp2
          go_roundw
          case rel => exact ⟨k + 1, by omega, by go_num, HBA.out, HR.out.succ HY.out (by show y1.length ≤ 4; omega) (by show y2.length ≤ 40; omega)⟩
          case measure => simp [intOf]; omega
    · have hke : k = bs.length := by omega
      have HY : Hid (LimTo bs bs.length) := by show LimTo bs bs.length; rw [← hke]; exact HR.out
      clear hke
      by_cases h8 : bs.length ≤ 8
      · have h8b : decide ((bs.length : Int) ≤ 8) = true := by simp; omega
        go_wp2
        go_ret
        exact ⟨BoolOf.yes ⟨HY.out, h8⟩, HBl.out⟩
      · have h8b : decide ((bs.length : Int) ≤ 8) = false := by simp; omega
        go_wp2
        go_ret
        exact ⟨BoolOf.no fun h => h8 h.2, HBl.out⟩

def BatTo (bs : List Ser) (k : Nat) : Prop := (∀ i x, i < k → bs[i]? = some x → LabelsOk x.1 ∧ SamplesOk x.2) ∧ ∀ i x y, i + 1 < k → bs[i]? = some x → bs[i + 1]? = some y → cmpLabs x.1 y.1 < 0
def BatchOk (bs : List Ser) : Prop := BatTo bs bs.length
theorem BatTo.one {bs : List Ser} {y : Ser} (_ : BatTo bs 0) (hy : bs[0]? = some y) (h1 : LabelsOk y.1) (h2 : SamplesOk y.2) : BatTo bs 1 := by
  refine ⟨fun i x hi hx => ?_, fun i x y h => by omega⟩
  obtain rfl : i = 0 := by omega
  rw [hy] at hx; cases hx; exact ⟨h1, h2⟩
theorem BatTo.succ {bs : List Ser} {k : Nat} {x y : Ser} (h : BatTo bs (k + 1)) (hx : bs[k]? = some x) (hy : bs[k + 1]? = some y) (h1 : LabelsOk y.1) (h2 : SamplesOk y.2) (hlt : cmpLabs x.1 y.1 < 0) : BatTo bs (k + 2) := by
  refine ⟨fun i u hi hu => ?_, fun i u v hi hu hv => ?_⟩
  · by_cases he : i = k + 1
    · subst he; rw [hy] at hu; cases hu; exact ⟨h1, h2⟩
    · exact h.1 i u (by omega) hu
  · by_cases he : i = k
    · subst he
      rw [hx] at hu; rw [hy] at hv
      cases hu; cases hv; exact hlt
    · exact h.2 i u v (by omega) hu hv

/-- What a batch that may be none is bounded by, so that no count wraps. -/
structure Small (bs : List Ser) : Prop where
  series : bs.length ≤ 10000000000000
  labels : ∀ s ∈ bs, s.1.length ≤ 10000000000000
  samples : ∀ s ∈ bs, s.2.length ≤ 10000000000000

set_option maxRecDepth 100000 in
set_option maxHeartbeats 400000 in
theorem isBatch_any (B : Nat) (v : Value) (bs : List Ser) (w : World) (hS : BatchAt w B v bs) (hB : B ≤ w.heap.size) (hsm : Small bs) :
    Calls Tryz.prog 101 #[v] w fun e w' => BoolOf e (BatchOk bs) ∧ Below w.heap.size w w' := by
  obtain ⟨a, c, rfl, _⟩ := id hS
  have HS := hide hS
  have hll := hsm.series
  have HSm := hide hsm
  clear hS hsm
  go_enter Tryz.func101, Tryz.ntmps101
  go_wp2
  go_loopw [3, 4, 7] (fun _ _ i wr => ∃ k : Nat, k ≤ bs.length ∧ i = .int .i64 k ∧ Below w.heap.size w wr ∧ Hid (BatTo bs k)) (fun _ _ i _ => bs.length - (intOf i).toNat)
  case atStart => exact ⟨0, Nat.zero_le _, rfl, Below.refl _ _, ⟨fun i x h => by omega, fun i x y h => by omega⟩⟩
  case round =>
    obtain ⟨k, hk, rfl, hbl, HR⟩ := hrel
    have hsz := hbl.size
    have HBl := hide hbl
    clear hbl
    by_cases hlt : k < bs.length
    · obtain ⟨⟨y1, y2⟩, hy⟩ : ∃ y, bs[k]? = some y := ⟨_, List.getElem?_eq_getElem hlt⟩
      have KS := HS.out.below HBl.out hB
      obtain ⟨b, o, la, lc, sa, sc, rfl, hb, c1, c2, hLa, hSa⟩ := KS.get hy
      have hbw : b < wr.heap.size := by omega
      have hym := List.mem_of_getElem? hy
      have hl1 : y1.length ≤ 10000000000000 := HSm.out.labels _ hym
      have hl2 : y2.length ≤ 10000000000000 := HSm.out.samples _ hym
      have HY := hide hy
      obtain ⟨W, hW⟩ : ∃ W, W = wr.alloc (.cells #[.slice la y1.length lc, .slice sa y2.length sc] 38) := ⟨_, rfl⟩
      have hWk : ∀ q, q < wr.heap.size → W.heap[q]? = wr.heap[q]? := fun q hq => by rw [hW]; exact heap_alloc_old wr _ hq
      have hWs : W.heap.size = wr.heap.size + 1 := by rw [hW]; simp
      have HBW : Hid (Below w.heap.size w W) := by rw [hW]; exact HBl.out.alloc hsz _
      have n0 : W.cell? ⟨wr.heap.size, 0, none⟩ = some (.slice la y1.length lc) := by rw [hW]; exact World.cell?_alloc_new _ _ _ 0
      have n1 : W.cell? ⟨wr.heap.size, 1, none⟩ = some (.slice sa y2.length sc) := by rw [hW]; exact World.cell?_alloc_new _ _ _ 1
      have KW : BatchAt W B (.slice (some ⟨b, o, none⟩) bs.length c) bs := KS.kept fun q hq => hWk q (by omega)
      have C1 := hide (areLabels_any B _ y1 W (hLa.kept fun q hq => hWk q (by omega)) (by omega) (by omega))
      have hSW : SamplesAt W B (.slice sa y2.length sc) y2 := hSa.kept fun q hq => hWk q (by omega)
      have hLW : LabelsAt W B (.slice la y1.length lc) y1 := hLa.kept fun q hq => hWk q (by omega)
      have HSW := hide hSW
      have HLW := hide hLW
      have HKW := hide KW
      have HW := hide hW
      clear hy hym KS hLa hSa hWk KW hSW hLW hW
      simp only at c1 c2
      go_wp2_with fail
      rw [← HW.out]
      refine C1.out.mono ?_
      rintro e w2 ⟨⟨r1, rfl, hr1⟩, hb2⟩
      cases r1 with
      | false =>
        have hno : ¬ BatchOk bs := fun h => by have := hr1.2 (h.1 k _ hlt HY.out).1; cases this
        have HNo := hide hno
        have HB2 := hide (HBW.out.trans (hb2.mono (by omega)))
        clear hno HR HY hb2 hr1
        go_wp2
        go_ret
        exact ⟨BoolOf.no HNo.out, HB2.out⟩
      | true =>
        have HR1 := hide (hr1.1 rfl)
        have p0 : w2.cell? ⟨wr.heap.size, 0, none⟩ = some (.slice la y1.length lc) := (hb2.cell (p := ⟨wr.heap.size, 0, none⟩) (by show wr.heap.size < W.heap.size; omega)).trans n0
        have p1 : w2.cell? ⟨wr.heap.size, 1, none⟩ = some (.slice sa y2.length sc) := (hb2.cell (p := ⟨wr.heap.size, 1, none⟩) (by show wr.heap.size < W.heap.size; omega)).trans n1
        have C2 := hide (areSamples_any B _ y2 w2 (HSW.out.below hb2 (by omega)) (by have := hb2.size; omega) (by omega))
        have HB2 := hide hb2
        clear hb2 hr1 C1
        go_wp2_with fail
        refine C2.out.mono ?_
        rintro e w3 ⟨⟨r2, rfl, hr2⟩, hb3⟩
        cases r2 with
        | false =>
          have hno : ¬ BatchOk bs := fun h => by have := hr2.2 (h.1 k _ hlt HY.out).2; cases this
          have HNo := hide hno
          have HB3 := hide ((HBW.out.trans (HB2.out.mono (by omega))).trans (hb3.mono (by have := HB2.out.size; omega)))
          clear hno HR HY hb3 hr2
          go_wp2
          go_ret
          exact ⟨BoolOf.no HNo.out, HB3.out⟩
        | true =>
          have HR2 := hide (hr2.1 rfl)
          have HB3 := hide (HB2.out.trans (hb3.mono HB2.out.size))
          have q0 : w3.cell? ⟨wr.heap.size, 0, none⟩ = some (.slice la y1.length lc) := (HB3.out.cell (p := ⟨wr.heap.size, 0, none⟩) (by show wr.heap.size < W.heap.size; omega)).trans n0
          have HBA := hide (HBW.out.trans (HB3.out.mono (by omega)))
          have hs3 : W.heap.size ≤ w3.heap.size := HB3.out.size
          clear hb3 hr2 C2 p0 p1 HB2
          cases k with
          | zero =>
            go_wp2
            go_quiet (fail)
            go_wp2
            go_roundw
            case rel => exact ⟨1, by omega, by go_num, below_drewN HBA.out _, HR.out.one HY.out HR1.out HR2.out⟩
            case measure => simp [intOf]; omega
          | succ j =>
            obtain ⟨⟨x1, x2⟩, hx⟩ : ∃ x, bs[j]? = some x := ⟨_, List.getElem?_eq_getElem (by omega)⟩
            have K3 := HKW.out.below HB3.out (by omega)
            obtain ⟨b2, o2, la2, lc2, sa2, sc2, hh2, hb2, d1, _, hL2, _⟩ := K3.get hx
            cases hh2
            have C := hide (compareFunc_any B _ _ x1 y1 w3.drew (hL2.kept fun _ _ => rfl) ((HLW.out.below HB3.out (by omega)).kept fun _ _ => rfl) (by show B ≤ w3.heap.size; omega) (HSm.out.labels _ (List.mem_of_getElem? hx)))
            have HX := hide hx
            have hbw3 : b < w3.heap.size := by omega
            clear hx K3 hL2
            simp only at d1
            have hj0 : (0 : Int) < ((j + 1 : Nat) : Int) := by omega
            have hj1 : (j : Int) < (bs.length : Int) := by omega
            have hj2 : (0 : Int) ≤ (j : Int) := by omega
            have hjw : IntKind.i64.wrap (j : Int) = (j : Int) := by rw [IntKind.wrap_i64]; omega
            have hjw2 : IntKind.i64.wrap (((j + 1 : Nat) : Int) - 1) = (j : Int) := by rw [IntKind.wrap_i64]; omega
            have hwr3 : wr.heap.size < w3.heap.size := by omega
            generalize hcq : cmpLabs x1 y1 = q at *
            have HQ : Hid (cmpLabs x1 y1 = q) := hcq
            clear hcq
            by_cases hc : 0 ≤ q
            · have hno : ¬ BatchOk bs := fun h => by have h2 : cmpLabs x1 y1 < 0 := h.2 j _ _ (by omega) HX.out HY.out; rw [HQ.out] at h2; omega
              have HNo := hide hno
              clear hno HR HY HX
              go_wp2
              as_aux_lemma =>
                go_region_held3 (fun w' => w'.cell? ⟨b, o + j * 2, none⟩ = some (.slice la2 x1.length lc2) ∧ w'.cell? ⟨wr.heap.size, 0, none⟩ = some (.slice la y1.length lc)) (go_keep) (first | (go_at_call 129; refine C.out.mono ?_; rintro e w4 ⟨rfl, hb4⟩; have e1 := (hb4.cell (p := ⟨b, o + j * 2, none⟩) (by show b < w3.heap.size; omega)).trans d1; have e2 := (hb4.cell (p := ⟨wr.heap.size, 0, none⟩) (by show wr.heap.size < w3.heap.size; omega)).trans q0))
                all_goals
                  have HB4 := hide (HBA.out.drew.trans (hb4.mono (by show w.heap.size ≤ w3.heap.size; omega)))
                  clear hb4 e1 e2
                  go_wp2
                  go_ret
                  exact ⟨BoolOf.no HNo.out, HB4.out⟩
            · have hcd : decide (0 ≤ q) = false := decide_eq_false hc
              have HR3 := hide (HR.out.succ HX.out HY.out HR1.out HR2.out (by show cmpLabs x1 y1 < 0; rw [HQ.out]; omega))
              clear HR HY HX
              go_wp2
              as_aux_lemma =>
                go_region_held3 (fun w' => w'.cell? ⟨b, o + j * 2, none⟩ = some (.slice la2 x1.length lc2) ∧ w'.cell? ⟨wr.heap.size, 0, none⟩ = some (.slice la y1.length lc)) (go_keep) (first | (go_at_call 129; refine C.out.mono ?_; rintro e w4 ⟨rfl, hb4⟩; have e1 := (hb4.cell (p := ⟨b, o + j * 2, none⟩) (by show b < w3.heap.size; omega)).trans d1; have e2 := (hb4.cell (p := ⟨wr.heap.size, 0, none⟩) (by show wr.heap.size < w3.heap.size; omega)).trans q0))
                all_goals
                  have HB4 := hide (HBA.out.drew.trans (hb4.mono (by show w.heap.size ≤ w3.heap.size; omega)))
                  clear hb4 e1 e2
                  go_wp2
                  go_roundw
                  case rel => exact ⟨j + 2, by omega, by go_num, HB4.out, HR3.out⟩
                  case measure => simp [intOf]; omega
    · have hke : k = bs.length := by omega
      have HY : Hid (BatchOk bs) := by show BatTo bs bs.length; rw [← hke]; exact HR.out
      clear hke
      go_wp2
      go_ret
      exact ⟨BoolOf.yes HY.out, HBl.out⟩
end Go.Proofs.YtamcclcbmenjdaaGreatDoor

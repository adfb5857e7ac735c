/- 'choirlaw.Joins', for any two lists of series of bulk at most 1048576: Join answers the document's join or error, either way round; what is handed in stays, what comes out is its owner's. The second form's statement: its only condition is the row's own bound on the arguments' bulk. -/
import Derived.Test.YtcidgfdiacehmaaJoinsuptoG1
import Derived.Test.YtcidgfdiacehmaaShelf
/- cmp.Or, compareLabel, CompareLabels. -/
namespace Go.Proofs.Ytcidgfdiacehmaa
open Go.RowKit Go.Lib

set_option maxHeartbeats 400000 in
theorem cmpOr_any (b o c : Nat) (x y : Int) (w : World) (hx : w.cell? ⟨b, o, none⟩ = some (.int .i64 x)) (hy : w.cell? ⟨b, o + 1, none⟩ = some (.int .i64 y)) :
    Calls Try.prog 52 #[.slice (some ⟨b, o, none⟩) 2 c] w fun e w' => e = .returned (.int .i64 (if x = 0 then y else x)) ∧ w' = w := by
  by_cases h0 : x = 0
  · subst h0
    by_cases h1 : y = 0
    · subst h1
      go_enter Try.func52, Try.ntmps52
      go_wp2
      refine wp_loop_rounds 3 ?_
      rw [rounds_succ]
      go_wp2
      rw [rounds_succ]
      go_wp2
      rw [rounds_succ]
      go_wp2
      go_ret
      exact ⟨rfl, rfl⟩
    · have hb : (y != 0) = true := by simpa using h1
      go_enter Try.func52, Try.ntmps52
      go_wp2
      refine wp_loop_rounds 3 ?_
      rw [rounds_succ]
      go_wp2
      rw [rounds_succ]
      go_wp2
      go_ret
      exact ⟨rfl, rfl⟩
  · have hb : (x != 0) = true := by simpa using h0
    go_enter Try.func52, Try.ntmps52
    go_wp2
    refine wp_loop_rounds 3 ?_
    rw [rounds_succ]
    go_wp2
    go_ret
    exact ⟨rfl, rfl⟩

def cmpB (a b : ByteArray) : Int := Lib.compareBytes a.data.toList b.data.toList
/-- Two labels compared: a key ahead of its value. -/
def cmpLab (x y : Lab) : Int := if cmpB x.1 y.1 = 0 then cmpB x.2 y.2 else cmpB x.1 y.1

set_option maxRecDepth 100000 in
set_option maxHeartbeats 400000 in
theorem compareLabel_any (x y : Lab) (w : World) :
    Calls Try.prog 47 #[.agg #[.string x.1, .string x.2], .agg #[.string y.1, .string y.2]] w fun e w' => e = .returned (.int .i64 (cmpLab x y)) ∧ Below w.heap.size w w' := by
  obtain ⟨a, b⟩ := x
  obtain ⟨c, d⟩ := y
  have C := hide (fun (s t : ByteArray) (W : World) => Try.strings_Compare s t W)
  have CO : Hid (∀ (W : World), W.cell? ⟨w.heap.size + 2, 0, none⟩ = some (.int .i64 (Lib.compareBytes a.data.toList c.data.toList)) → W.cell? ⟨w.heap.size + 2, 1, none⟩ = some (.int .i64 (Lib.compareBytes b.data.toList d.data.toList)) → Calls Try.prog 52 #[.slice (some ⟨w.heap.size + 2, 0, none⟩) 2 2] W fun e w' => e = .returned (.int .i64 (cmpLab (a, b) (c, d))) ∧ w' = W) := fun W h1 h2 => cmpOr_any (w.heap.size + 2) 0 2 _ _ W h1 h2
  have HL : Hid (cmpLab (a, b) (c, d) = if cmpB a c = 0 then cmpB b d else cmpB a c) := rfl
  go_enter Try.func47, Try.ntmps47
  go_wp2
  as_aux_lemma =>
    go_region_held3 (fun w' => w'.cell? ⟨w.heap.size, 0, none⟩ = some (.string a) ∧ w'.cell? ⟨w.heap.size, 1, none⟩ = some (.string b) ∧ w'.cell? ⟨w.heap.size + 1, 0, none⟩ = some (.string c) ∧ w'.cell? ⟨w.heap.size + 1, 1, none⟩ = some (.string d)) (go_keep) (first | (go_at_call 53; refine (C.out _ _ _).mono ?_; rintro e w' ⟨rfl, rfl⟩) | (go_at_call 52; refine (CO.out _ (by simp; rw [World.cell?_alloc_at _ _ _ _ (by simp)]; rfl) (by simp; rw [World.cell?_alloc_at _ _ _ _ (by simp)]; rfl)).mono ?_; rintro e w' ⟨rfl, rfl⟩))
    all_goals
      go_wp2
      go_ret
      exact ⟨rfl, ((((Below.refl _ _).alloc (Nat.le_refl _) _).alloc (by simp) _).alloc (by simp; omega) _).drew⟩

/-- Two lists of labels compared. -/
def cmpLabs : List Lab → List Lab → Int
  | [], [] => 0
  | [], _ :: _ => -1
  | _ :: _, [] => 1
  | x :: r, y :: q => if cmpLab x y = 0 then cmpLabs r q else cmpLab x y

theorem cmpLabs_drop {l m : List Lab} {k : Nat} {x y : Lab} (hx : l[k]? = some x) (hy : m[k]? = some y) : cmpLabs (l.drop k) (m.drop k) = if cmpLab x y = 0 then cmpLabs (l.drop (k + 1)) (m.drop (k + 1)) else cmpLab x y := by
  obtain ⟨h1, e1⟩ := List.getElem?_eq_some_iff.1 hx
  obtain ⟨h2, e2⟩ := List.getElem?_eq_some_iff.1 hy
  rw [List.drop_eq_getElem_cons h1, List.drop_eq_getElem_cons h2, e1, e2, cmpLabs]

theorem cmpLabs_end1 {l m : List Lab} {k : Nat} {x : Lab} (hm : m.length ≤ k) (hx : l[k]? = some x) : cmpLabs (l.drop k) (m.drop k) = 1 := by
  obtain ⟨h1, e1⟩ := List.getElem?_eq_some_iff.1 hx
  have e2 : m.drop k = [] := List.drop_eq_nil_of_le hm
  rw [List.drop_eq_getElem_cons h1, e2]; rfl
theorem cmpLabs_end2 {l m : List Lab} {k : Nat} (hl : k = l.length) (hm : k ≤ m.length) : cmpLabs (l.drop k) (m.drop k) = if l.length < m.length then -1 else 0 := by
  have e1 : l.drop k = [] := List.drop_eq_nil_of_le (by omega)
  rw [e1]
  by_cases h : l.length < m.length
  · rw [if_pos h, List.drop_eq_getElem_cons (show k < m.length by omega)]; rfl
  · have e2 : m.drop k = [] := List.drop_eq_nil_of_le (by omega)
    rw [if_neg h, e2]; rfl

set_option maxRecDepth 100000 in
set_option maxHeartbeats 400000 in
theorem compareFunc_any (B : Nat) (u v : Value) (l m : List Lab) (w : World) (hl : LabelsAt w B u l) (hm : LabelsAt w B v m) (hB : B ≤ w.heap.size) (hll : l.length ≤ 10000000000000) :
    Calls Try.prog 40 #[u, v] w fun e w' => e = .returned (.int .i64 (cmpLabs l m)) ∧ Below w.heap.size w w' := by
  obtain ⟨la, lc, rfl, _⟩ := id hl
  obtain ⟨ma, mc, rfl, _⟩ := id hm
  have HL := hide hl
  have HM := hide hm
  clear hl hm
  go_enter Try.func40, Try.ntmps40
  go_wp2_with go_in
  go_loopw [7, 8, 9, 10, 13] (fun _ _ _ _ i wr => ∃ k : Nat, k ≤ l.length ∧ k ≤ m.length ∧ i = .int .i64 k ∧ Below w.heap.size w wr ∧ Hid (cmpLabs l m = cmpLabs (l.drop k) (m.drop k))) (fun _ _ _ _ i _ => l.length - (intOf i).toNat)
  case atStart => exact ⟨0, Nat.zero_le _, Nat.zero_le _, rfl, Below.refl _ _, rfl⟩
  case round =>
    obtain ⟨k, hk, hkm, rfl, hbl, HE⟩ := hrel
    have hsz := hbl.size
    have HBl := hide hbl
    clear hbl
    by_cases hlt : k < l.length
    · obtain ⟨x, hx⟩ : ∃ x, l[k]? = some x := ⟨_, List.getElem?_eq_getElem hlt⟩
      obtain ⟨b, o, rfl, hb, c1, c2⟩ := (HL.out.below HBl.out hB).get hx
      have hbw : b < wr.heap.size := by omega
      by_cases hltm : k < m.length
      · obtain ⟨y, hy⟩ : ∃ y, m[k]? = some y := ⟨_, List.getElem?_eq_getElem hltm⟩
        obtain ⟨b', o', rfl, hb', d1, d2⟩ := (HM.out.below HBl.out hB).get hy
        have hbw' : b' < wr.heap.size := by omega
        have HD := hide (cmpLabs_drop hx hy)
        obtain ⟨x1, x2⟩ := x
        obtain ⟨y1, y2⟩ := y
        clear hx hy
        go_wp2_with fail
        refine (compareLabel_any (x1, x2) (y1, y2) _).mono ?_
        rintro e w2 ⟨rfl, hb2⟩
        have HB2 := hide (((HBl.out.alloc hsz _).alloc (by simp; omega) _).trans (hb2.mono (by simp; omega)))
        clear hb2 HBl
        generalize cmpLab (x1, x2) (y1, y2) = q at *
        by_cases hq : q = 0
        · subst hq
          go_wp2
          go_roundw
          case rel => exact ⟨k + 1, by omega, by omega, by go_num, HB2.out, by show _ = _; rw [HE.out, HD.out, if_pos trivial]⟩
          case measure => simp [intOf]; omega
        · have hqb : (q != 0) = true := by simpa using hq
          go_wp2
          go_ret
          exact ⟨ret_int (by rw [HE.out, HD.out, if_neg hq]), HB2.out⟩
      · obtain ⟨x1, x2⟩ := x
        have hme : m.length ≤ k := by omega
        have hend : cmpLabs l m = 1 := HE.out.trans (cmpLabs_end1 hme hx)
        have HEnd := hide hend
        clear hx hend
        go_wp2
        go_ret
        exact ⟨ret_int HEnd.out.symm, HBl.out.alloc hsz _⟩
    · have hend : cmpLabs l m = if l.length < m.length then -1 else 0 := HE.out.trans (cmpLabs_end2 (by omega) (by omega))
      have HEnd := hide hend
      clear hend
      by_cases hlm : l.length < m.length
      · rw [if_pos hlm] at HEnd
        go_wp2
        go_ret
        exact ⟨ret_int HEnd.out.symm, HBl.out⟩
      · rw [if_neg hlm] at HEnd
        go_wp2
        go_ret
        exact ⟨ret_int HEnd.out.symm, HBl.out⟩
end Go.Proofs.Ytcidgfdiacehmaa

/- areSamples. -/
namespace Go.Proofs.Ytcidgfdiacehmaa
open Go.RowKit Go.Lib

/-- The first k samples rise by their times. -/
def RisesTo (l : List (Int × Nat)) (k : Nat) : Prop := ∀ i x y, i + 1 < k → l[i]? = some x → l[i + 1]? = some y → x.1 < y.1
def SamplesOk (l : List (Int × Nat)) : Prop := l ≠ [] ∧ RisesTo l l.length
theorem RisesTo.succ {l : List (Int × Nat)} {k : Nat} {x y : Int × Nat} (h : RisesTo l (k + 1)) (hx : l[k]? = some x) (hy : l[k + 1]? = some y) (hlt : x.1 < y.1) : RisesTo l (k + 2) := by
  intro i u v hi hu hv
  by_cases he : i = k
  · subst he
    rw [hx] at hu; rw [hy] at hv
    cases hu; cases hv; exact hlt
  · exact h i u v (by omega) hu hv
theorem SamplesAt.get {w : World} {B : Nat} {a : Option Addr} {n c : Nat} {l : List (Int × Nat)} (h : SamplesAt w B (.slice a n c) l) {k : Nat} {x : Int × Nat} (hx : l[k]? = some x) :
    ∃ b o, a = some ⟨b, o, none⟩ ∧ b < B ∧ w.cell? ⟨b, o + k * 2, none⟩ = some (.int .i64 x.1) ∧ w.cell? ⟨b, o + k * 2 + 1, none⟩ = some (.int .u64 x.2) := by
  obtain ⟨a', c', hv, _, _, h2⟩ := h
  cases hv
  rcases h2 with h2 | ⟨b, o, ha, hb, hc⟩
  · rw [h2] at hx; cases hx
  · exact ⟨b, o, ha, hb, (hc k x hx).1, (hc k x hx).2⟩

theorem ok_end {l : List (Int × Nat)} (h : RisesTo l l.length) : decide (0 < l.length) = true ↔ SamplesOk l := by
  rw [decide_eq_true_iff]
  constructor
  · intro hl
    exact ⟨by intro e; rw [e] at hl; simp at hl, h⟩
  · rintro ⟨hl, _⟩
    exact List.length_pos_iff.2 hl

set_option maxRecDepth 100000 in
set_option maxHeartbeats 400000 in
theorem areSamples_any (B : Nat) (v : Value) (l : List (Int × Nat)) (w : World) (hS : SamplesAt w B v l) (hB : B ≤ w.heap.size) (hll : l.length ≤ 10000000000000) :
    Calls Try.prog 39 #[v] w fun e w' => (∃ r, e = .returned (.bool r) ∧ (r = true ↔ SamplesOk l)) ∧ Below w.heap.size w w' := by
  obtain ⟨a, c, rfl, _⟩ := id hS
  have HS := hide hS
  clear hS
  go_enter Try.func39, Try.ntmps39
  go_wp2
  go_loopw [3, 4, 7] (fun _ _ i wr => ∃ k : Nat, k ≤ l.length ∧ i = .int .i64 k ∧ Below w.heap.size w wr ∧ Hid (RisesTo l k)) (fun _ _ i _ => l.length - (intOf i).toNat)
  case atStart => exact ⟨0, Nat.zero_le _, rfl, Below.refl _ _, fun i x y h => by omega⟩
  case round =>
    obtain ⟨k, hk, rfl, hbl, HR⟩ := hrel
    have hsz := hbl.size
    have HBl := hide hbl
    clear hbl
    by_cases hlt : k < l.length
    · obtain ⟨y, hy⟩ : ∃ y, l[k]? = some y := ⟨_, List.getElem?_eq_getElem hlt⟩
      have KS := HS.out.below HBl.out hB
      obtain ⟨b, o, rfl, hb, c1, c2⟩ := KS.get hy
      have hbw : b < wr.heap.size := by omega
      have HY := hide hy
      clear hy
      cases k with
      | zero =>
        simp only [Nat.zero_mul, Nat.add_zero] at c1 c2
        go_wp2
        go_quiet (fail)
        go_wp2
        go_roundw
        case rel => exact ⟨1, by omega, by go_num, below_drewN (HBl.out.alloc hsz _) _, fun i x y h => by omega⟩
        case measure => simp [intOf]; omega
      | succ j =>
        obtain ⟨x, hx⟩ : ∃ x, l[j]? = some x := ⟨_, List.getElem?_eq_getElem (by omega)⟩
        obtain ⟨b2, o2, h2, _, d1, _⟩ := KS.get hx
        cases h2
        have HX := hide hx
        clear hx
        by_cases hge : y.1 ≤ x.1
        · go_wp2
          go_quiet (fail)
          go_wp2
          go_ret
          refine ⟨⟨false, rfl, ?_⟩, below_drewN (HBl.out.alloc hsz _) _⟩
          refine ⟨fun h => absurd h (by decide), fun h => ?_⟩
          have := h.2 j x y (by omega) HX.out HY.out
          omega
        · have hge2 : decide (y.1 ≤ x.1) = false := decide_eq_false hge
          go_wp2
          go_quiet (fail)
          go_wp2
          go_roundw
          case rel => exact ⟨j + 2, by omega, by go_num, below_drewN (HBl.out.alloc hsz _) _, HR.out.succ HX.out HY.out (by omega)⟩
          case measure => simp [intOf]; omega
    · have hke : k = l.length := by omega
      go_wp2
      go_ret
      refine ⟨⟨_, rfl, ?_⟩, HBl.out⟩
      have hR : RisesTo l l.length := by rw [← hke]; exact HR.out
      exact ok_end hR
end Go.Proofs.Ytcidgfdiacehmaa

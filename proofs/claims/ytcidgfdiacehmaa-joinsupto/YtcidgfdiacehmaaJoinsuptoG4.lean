/- 'choirlaw.Joins', for any two lists of series of bulk at most 1048576: Join answers the document's join or error, either way round; what is handed in stays, what comes out is its owner's. The second form's statement: its only condition is the row's own bound on the arguments' bulk. -/
import Derived.Test.YtcidgfdiacehmaaJoinsuptoG3
import Derived.WalkSpells
/- choirlaw's wholeLabels, wholeSamples, whole: of what roomy made they say that it is whole. -/
namespace Go.Proofs.Ytcidgfdiacehmaa
open Go.RowKit Go.Lib

set_option maxRecDepth 100000 in
set_option maxHeartbeats 1000000 in
theorem wholeLabels_any (base B : Nat) (v r : Value) (l : List Lab) (w : World) (hR : RoomL w base v r l) (hL : LabelsAt w B v l) (hl : l.length ≤ 4400000000000) :
    Calls Try.prog 31 #[r, v] w fun e w' => e = .returned (.bool true) ∧ ∃ q, w' = w.drewN q := by
  obtain ⟨a, cap, rfl, _⟩ := id hL
  have hnil : ∀ (W : World) a n c, (binOp .eql 35 (.slice a n c) (.slice none 0 0)).run Try.prog W = .ok (.bool a.isNone) W := fun W a n c => Lib.run_eql_slice_nil W 35 60 a n c 0 0 Try.underlying35
  rcases hR with ⟨h1, rfl, h0⟩ | ⟨h1, g, hg, rfl, hB⟩
  · cases a with
    | some a => simp [isNil] at h1
    | none =>
      go_enter Try.func31, Try.ntmps31
      go_wp2
      go_ret
      exact ⟨rfl, 0, rfl⟩
  · cases a with
    | none => simp [isNil] at h1
    | some a =>
      have hlen := labP_length l
      have HL := hide hL
      have HB := hide hB
      clear hL hB h1
      rw [hlen]
      go_enter Try.func31, Try.ntmps31
      go_wp2
      go_loopw [7] (fun i wr => ∃ j q : Nat, j ≤ l.length + 8 ∧ i = .int .i64 j ∧ wr = w.drewN q) (fun i _ => l.length + 8 - (intOf i).toNat)
      case atStart => exact ⟨0, 0, Nat.zero_le _, rfl, rfl⟩
      case round =>
        obtain ⟨j, q, hj, rfl, rfl⟩ := hrel
        by_cases hlt : j < l.length + 8
        · have k0 : (j : Int) < (l.length : Int) + 8 := by omega
          by_cases hin : j < l.length
          · obtain ⟨⟨x1, x2⟩, hx⟩ : ∃ x, l[j]? = some x := ⟨_, List.getElem?_eq_getElem hin⟩
            obtain ⟨b, o, e, u1, u2⟩ := labGet HL.out hx
            cases e
            have hp : (labP l)[j]? = some (.string x1, .string x2) := by simp [labP, hx]
            have hg2 := serCells_get (roomP_front (labP l) labX labZ 8 hp)
            have t1 := HB.out.cell hg2.1
            have t2 := HB.out.cell hg2.2
            have k1 : (j : Int) < (l.length : Int) := by omega
            have k2 : decide (l.length ≤ j) = false := by simp; omega
            simp only at u1 u2
            clear hx hp hg2
            go_wp2
            go_quiet (fail)
            go_wp2
            go_roundw
            case rel => exact ⟨j + 1, _, by omega, by go_num, by first | rfl | exact drewN_two _ _ _⟩
            case measure => simp [intOf]; omega
          · obtain ⟨m, rfl⟩ : ∃ m, j = l.length + m := ⟨j - l.length, by omega⟩
            have hg2 := serCells_get (roomP_back (labP l) labX labZ (j := m) (by omega))
            rw [hlen] at hg2
            have t1 := HB.out.cell hg2.1
            simp only [labX, bey] at t1
            have k1 : decide (l.length + m < l.length) = false := by simp
            have k2 : decide (l.length ≤ l.length + m) = true := by simp
            have hs8 : l.length + m < l.length + 8 := hlt
            generalize l.length + m = j at *
            clear hg2
            go_wp2
            go_quiet (fail)
            go_wp2
            go_roundw
            case rel => exact ⟨j + 1, _, by omega, by go_num, by first | rfl | exact drewN_two _ _ _⟩
            case measure => simp [intOf]; omega
        · have k0 : ¬ (j : Int) < (l.length : Int) + 8 := by omega
          go_wp2
          go_ret
          exact ⟨rfl, _, rfl⟩
set_option maxRecDepth 100000 in
set_option maxHeartbeats 1000000 in
theorem wholeSamples_any (base B : Nat) (v r : Value) (l : List (Int × Nat)) (w : World) (hR : RoomS w base v r l) (hL : SamplesAt w B v l) (hl : l.length ≤ 8800000000000) :
    Calls Try.prog 32 #[r, v] w fun e w' => e = .returned (.bool true) ∧ ∃ q, w' = w.drewN q := by
  obtain ⟨a, cap, rfl, _⟩ := id hL
  have hnil : ∀ (W : World) a n c, (binOp .eql 34 (.slice a n c) (.slice none 0 0)).run Try.prog W = .ok (.bool a.isNone) W := fun W a n c => Lib.run_eql_slice_nil W 34 33 a n c 0 0 Try.underlying34
  rcases hR with ⟨h1, rfl, h0⟩ | ⟨h1, g, hg, rfl, hB⟩
  · cases a with
    | some a => simp [isNil] at h1
    | none =>
      go_enter Try.func32, Try.ntmps32
      go_wp2
      go_ret
      exact ⟨rfl, 0, rfl⟩
  · cases a with
    | none => simp [isNil] at h1
    | some a =>
      have hlen := samP_length l
      have HL := hide hL
      have HB := hide hB
      clear hL hB h1
      rw [hlen]
      go_enter Try.func32, Try.ntmps32
      go_wp2
      go_loopw [7] (fun i wr => ∃ j q : Nat, j ≤ l.length + 8 ∧ i = .int .i64 j ∧ wr = w.drewN q) (fun i _ => l.length + 8 - (intOf i).toNat)
      case atStart => exact ⟨0, 0, Nat.zero_le _, rfl, rfl⟩
      case round =>
        obtain ⟨j, q, hj, rfl, rfl⟩ := hrel
        by_cases hlt : j < l.length + 8
        · have k0 : (j : Int) < (l.length : Int) + 8 := by omega
          by_cases hin : j < l.length
          · obtain ⟨⟨x1, x2⟩, hx⟩ : ∃ x, l[j]? = some x := ⟨_, List.getElem?_eq_getElem hin⟩
            obtain ⟨b, o, e, u1, u2⟩ := samGet HL.out hx
            cases e
            have hp : (samP l)[j]? = some (.int .i64 x1, .int .u64 x2) := by simp [samP, hx]
            have hg2 := serCells_get (roomP_front (samP l) samX samZ 8 hp)
            have t1 := HB.out.cell hg2.1
            have t2 := HB.out.cell hg2.2
            have k1 : (j : Int) < (l.length : Int) := by omega
            have k2 : decide (l.length ≤ j) = false := by simp; omega
            simp only at u1 u2
            clear hx hp hg2
            go_wp2
            go_quiet (fail)
            go_wp2
            go_roundw
            case rel => exact ⟨j + 1, _, by omega, by go_num, by first | rfl | exact drewN_two _ _ _⟩
            case measure => simp [intOf]; omega
          · obtain ⟨m, rfl⟩ : ∃ m, j = l.length + m := ⟨j - l.length, by omega⟩
            have hg2 := serCells_get (roomP_back (samP l) samX samZ (j := m) (by omega))
            rw [hlen] at hg2
            have t1 := HB.out.cell hg2.2
            simp only [samX] at t1
            have k1 : decide (l.length + m < l.length) = false := by simp
            have k2 : decide (l.length ≤ l.length + m) = true := by simp
            have hs8 : l.length + m < l.length + 8 := hlt
            generalize l.length + m = j at *
            clear hg2
            go_wp2
            go_quiet (fail)
            go_wp2
            go_roundw
            case rel => exact ⟨j + 1, _, by omega, by go_num, by first | rfl | exact drewN_two _ _ _⟩
            case measure => simp [intOf]; omega
        · have k0 : ¬ (j : Int) < (l.length : Int) + 8 := by omega
          go_wp2
          go_ret
          exact ⟨rfl, _, rfl⟩
end Go.Proofs.Ytcidgfdiacehmaa

/- choirlaw's whole: of what roomy made it says that it is whole. -/
namespace Go.Proofs.Ytcidgfdiacehmaa
open Go.RowKit Go.Lib

theorem Roomed.drewN {w : World} {base : Nat} {p q : Value × Value} {x : Ser} (h : Roomed w base p q x) (m : Nat) : Roomed (w.drewN m) base p q x := h.kept fun _ _ => rfl
theorem bey_get {rv : List (Value × Value)} {bb : List Nat} {m q : Nat} (h : bb[m]? = some q) : (rv ++ bb.map beyV)[rv.length + m]? = some (beyV q) := by
  rw [List.getElem?_append_right (by omega), Nat.add_sub_cancel_left, List.getElem?_map, h]; rfl

set_option maxRecDepth 100000 in
set_option maxHeartbeats 1000000 in
theorem whole_any (base B : Nat) (v r : Value) (vals : List (Value × Value)) (bs : List Ser) (rv : List (Value × Value)) (w : World) (hR : RoomB w base v r vals bs rv) (hV : BatchV w B v vals bs) (hl : bs.length ≤ 3000000000000) (hll : ∀ s ∈ bs, s.1.length ≤ 4400000000000 ∧ s.2.length ≤ 8800000000000) :
    Calls Try.prog 15 #[r, v] w fun e w' => e = .returned (.bool true) ∧ ∃ q, w' = w.drewN q := by
  obtain ⟨hvl, a, cap, rfl, hcap, h2, h3⟩ := id hV
  have hnil : ∀ (W : World) a n c, (binOp .eql 22 (.slice a n c) (.slice none 0 0)).run Try.prog W = .ok (.bool a.isNone) W := fun W a n c => Lib.run_eql_slice_nil W 22 37 a n c 0 0 Try.underlying22
  have hnn : ∀ (W : World) a n c, (binOp .neq 34 (.slice a n c) (.slice none 0 0)).run Try.prog W = .ok (.bool (!a.isNone)) W := fun W a n c => run_neq_slice_nil_any W 34 33 a n c 0 0 Try.underlying34
  rcases hR with ⟨h1, rfl, h0, _⟩ | ⟨h1, g, bb, hg, rfl, hrl, hbb, hB, hbs, hro, _⟩
  · cases a with
    | some a => simp [isNil] at h1
    | none =>
      clear hV h2 h3
      go_enter Try.func15, Try.ntmps15
      go_wp2
      go_ret
      exact ⟨rfl, 0, rfl⟩
  · cases a with
    | none => simp [isNil] at h1
    | some a =>
      have HB := hide hB
      have HBs := hide hbs
      have HRo := hide hro
      have HLL := hide hll
      have H2 := hide h2
      have H3 := hide h3
      clear hV h2 h3 hB hbs hro h1 hll
      go_enter Try.func15, Try.ntmps15
      go_wp2
      go_loopw [7, 8, 9] (fun i _ _ wr => ∃ j q : Nat, j ≤ bs.length + 8 ∧ i = .int .i64 j ∧ Hid (wr = w.drewN q)) (fun i _ _ _ => bs.length + 8 - (intOf i).toNat)
      case atStart => exact ⟨0, 0, Nat.zero_le _, rfl, rfl⟩
      case round =>
        obtain ⟨j, q, hj, rfl, HW⟩ := hrel
        have HH : Hid (wr.heap = w.heap) := by rw [HW.out]; rfl
        have hwc : ∀ b o, wr.cell? ⟨b, o, none⟩ = w.cell? ⟨b, o, none⟩ := fun b o => by rw [HW.out]; rfl
        by_cases hlt : j < bs.length + 8
        · have k0 : (j : Int) < (bs.length : Int) + 8 := by omega
          by_cases hin : j < bs.length
          · obtain ⟨x, hx⟩ : ∃ x, bs[j]? = some x := ⟨_, List.getElem?_eq_getElem hin⟩
            obtain ⟨p, hp⟩ : ∃ p, vals[j]? = some p := ⟨_, List.getElem?_eq_getElem (by omega)⟩
            obtain ⟨u, hu⟩ : ∃ u, rv[j]? = some u := ⟨_, List.getElem?_eq_getElem (by omega)⟩
            have hro := HRo.out j p u x hp hu hx
            obtain ⟨hLa, hSa⟩ := H3.out j p x hp hx
            have hxl := HLL.out x (List.mem_of_getElem? hx)
            have CL : Hid (∀ W : World, W.heap = w.heap → Calls Try.prog 31 #[u.1, p.1] W fun e w' => e = .returned (.bool true) ∧ ∃ q', w' = W.drewN q') := fun W hW => wholeLabels_any base B p.1 u.1 x.1 W (hro.kept fun _ _ => by rw [hW]).labels (hLa.kept fun _ _ => by rw [hW]) hxl.1
            have CS : Hid (∀ W : World, W.heap = w.heap → Calls Try.prog 32 #[u.2, p.2] W fun e w' => e = .returned (.bool true) ∧ ∃ q', w' = W.drewN q') := fun W hW => wholeSamples_any base B p.2 u.2 x.2 W (hro.kept fun _ _ => by rw [hW]).samples (hSa.kept fun _ _ => by rw [hW]) hxl.2
            obtain ⟨la, lc, hpl, _⟩ := hLa
            obtain ⟨sa, sc, hps, _⟩ := hSa
            obtain ⟨a1, n1, q1, hu1⟩ := room_shape hro.labels
            obtain ⟨a2, n2, q2, hu2⟩ := room_shape hro.samples
            have hcc : ∃ b o, a = ⟨b, o, none⟩ ∧ w.cell? ⟨b, o + j * 2, none⟩ = some p.1 ∧ w.cell? ⟨b, o + j * 2 + 1, none⟩ = some p.2 := by
              rcases H2.out with h5 | ⟨b, o, ha, hb, hc⟩
              · rw [h5] at hin; simp at hin
              · exact ⟨b, o, Option.some.inj ha, hc _ p hp⟩
            obtain ⟨b, o, rfl, c1, c2⟩ := hcc
            have hg2 := serCells_get (l := rv ++ bb.map beyV) (i := j) (p := u) (by rw [List.getElem?_append_left (by omega)]; exact hu)
            have t1 := (hwc _ _).trans (HB.out.cell hg2.1)
            have t2 := (hwc _ _).trans (HB.out.cell hg2.2)
            have d1 := (hwc _ _).trans c1
            have d2 := (hwc _ _).trans c2
            obtain ⟨p1, p2⟩ := p
            obtain ⟨w1, w2⟩ := u
            simp only at hpl hps hu1 hu2
            subst hpl hps hu1 hu2
            simp only at t1 t2 d1 d2 CL CS
            have k1 : (j : Int) < (bs.length : Int) := by omega
            have k2 : decide (bs.length ≤ j) = false := by simp; omega
            clear hx hp hu hg2 hro c1 c2 hwc
            go_wp2
            go_quiet ((go_at_call 31; exact Calls.quiet_of (CL.out _ (by exact HH.out))))
            obtain ⟨W2, hW2⟩ : ∃ W2, W2 = wr.drewN nq := ⟨_, rfl⟩
            rw [← hW2]
            have s2 : W2.cell? ⟨g, j * 2 + 1, none⟩ = some (.slice a2 n2 q2) := by rw [hW2]; exact t2
            have f2 : W2.cell? ⟨b, o + j * 2 + 1, none⟩ = some (.slice sa x.2.length sc) := by rw [hW2]; exact d2
            have HH2 : Hid (W2.heap = w.heap) := by rw [hW2]; exact HH.out
            have HW2 := hide hW2
            clear hW2 t1 t2 d1 d2
            go_wp2
            go_quiet ((go_at_call 32; exact Calls.quiet_of (CS.out _ (by exact HH2.out))))
            go_wp2
            go_roundw
            case rel => exact ⟨j + 1, _, by omega, by go_num, by show _ = _; rw [HW2.out, HW.out, drewN_two, drewN_two]⟩
            case measure => simp [intOf]; omega
          · obtain ⟨m, rfl⟩ : ∃ m, j = bs.length + m := ⟨j - bs.length, by omega⟩
            obtain ⟨y, hy⟩ : ∃ y, bb[m]? = some y := ⟨_, List.getElem?_eq_getElem (by omega)⟩
            have hg2 := serCells_get (bey_get (rv := rv) hy)
            rw [hrl] at hg2
            have t1 := (hwc _ _).trans (HB.out.cell hg2.1)
            have t2 := (hwc _ _).trans (HB.out.cell hg2.2)
            have t3 := (hwc _ _).trans ((HBs.out y (List.mem_of_getElem? hy)).2.cell (i := 0) rfl)
            simp only [beyV, bey] at t1 t2 t3
            have k2 : decide (bs.length ≤ bs.length + m) = true := by simp
            have hs8 : bs.length + m < bs.length + 8 := hlt
            generalize bs.length + m = j at *
            clear hg2 hy hwc
            go_wp2
            go_roundw
            case rel => exact ⟨j + 1, _, by omega, by go_num, HW.out⟩
            case measure => simp [intOf]; omega
        · have k0 : ¬ (j : Int) < (bs.length : Int) + 8 := by omega
          clear hwc
          go_wp2
          go_ret
          exact ⟨rfl, _, HW.out⟩
end Go.Proofs.Ytcidgfdiacehmaa

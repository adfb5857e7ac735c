/- 'choirlaw.Reads', for any list of texts of bulk at most 1048576: Decode answers the document's batch or error, one behind the other; lists that came out are their owner's own. The second form's statement and its card: its only condition is the row's own bound on the argument's bulk. -/
import Derived.Test.YtamcclcbmenjdaaGreatDoorReadsuptoG2
import Derived.Test.YtamcclcbmenjdaaGreatDoorReadsuptoG27
/- The reference: less, Order, Within. -/
namespace Go.Proofs.YtamcclcbmenjdaaGreatDoor
open Go.RowKit Go.Lib

theorem bl_cmp : ∀ (x y : List UInt8), (Op.bytesLess x y = true ↔ Lib.compareBytes x y = -1) ∧ (x = y ↔ Lib.compareBytes x y = 0) ∧ (Lib.compareBytes x y = -1 ∨ Lib.compareBytes x y = 0 ∨ Lib.compareBytes x y = 1) ∧ Lib.compareBytes y x = - Lib.compareBytes x y
  | [], [] => by simp [Op.bytesLess, Lib.compareBytes]
  | [], _ :: _ => by simp [Op.bytesLess, Lib.compareBytes]
  | _ :: _, [] => by simp [Op.bytesLess, Lib.compareBytes]
  | a :: r, b :: q => by
    have ih := bl_cmp r q
    by_cases hab : a = b
    · subst hab
      simpa [Op.bytesLess, Lib.compareBytes] using ih
    · by_cases hlt : a < b
      · have hlt2 : ¬ b < a := fun h => absurd (UInt8.lt_trans hlt h) (UInt8.lt_irrefl _)
        simp [Op.bytesLess, Lib.compareBytes, hab, hlt, hlt2]
      · have hlt2 : b < a := by rcases UInt8.lt_or_lt_of_ne hab with h | h; exact absurd h hlt; exact h
        simp [Op.bytesLess, Lib.compareBytes, hab, hlt, hlt2]

/-- Is a label ahead of another? -/
def lessLab (x y : Lab) : Bool := Op.bytesLess x.1.toList y.1.toList || (x.1.toList == y.1.toList && Op.bytesLess x.2.toList y.2.toList)

theorem toList_data (a : ByteArray) : a.toList = a.data.toList := ByteArray.toList_eq a
theorem lessLab_cmp (x y : Lab) : (lessLab x y = true ↔ cmpLab x y = -1) ∧ (lessLab y x = true ↔ cmpLab x y = 1) ∧ (cmpLab x y = -1 ∨ cmpLab x y = 0 ∨ cmpLab x y = 1) := by
  have h1 := bl_cmp x.1.data.toList y.1.data.toList
  have h2 := bl_cmp x.2.data.toList y.2.data.toList
  have h3 := bl_cmp y.1.data.toList x.1.data.toList
  have h4 := bl_cmp y.2.data.toList x.2.data.toList
  unfold lessLab cmpLab cmpB
  simp only [toList_data, Bool.or_eq_true, Bool.and_eq_true, beq_iff_eq, h1.1, h2.1, h3.1, h4.1]
  rw [h1.2.1, h3.2.1, h1.2.2.2, h2.2.2.2]
  have a1 := h1.2.2.1
  have a2 := h2.2.2.1
  generalize Lib.compareBytes x.1.data.toList y.1.data.toList = p at *
  generalize Lib.compareBytes x.2.data.toList y.2.data.toList = q at *
  clear h1 h2 h3 h4
  split <;> omega

set_option maxRecDepth 100000 in
set_option maxHeartbeats 400000 in
theorem less_any (x y : Lab) (w : World) :
    Calls Tryz.prog 104 #[.agg #[.string x.1, .string x.2], .agg #[.string y.1, .string y.2]] w fun e w' => e = .returned (.bool (lessLab x y)) ∧ Below w.heap.size w w' := by
  obtain ⟨a, b⟩ := x
  obtain ⟨c, d⟩ := y
  have HL : Hid (lessLab (a, b) (c, d) = (Op.bytesLess a.toList c.toList || (a.toList == c.toList && Op.bytesLess b.toList d.toList))) := rfl
  cases h1 : Op.bytesLess a.toList c.toList with
  | true =>
    go_enter Tryz.func104, Tryz.ntmps104
    go_wp2
    go_ret
    exact ⟨by rw [HL.out, h1]; rfl, (((Below.refl _ _).alloc (Nat.le_refl _) _).alloc (by simp) _)⟩
  | false =>
    cases h2 : a.toList == c.toList with
    | true =>
      go_enter Tryz.func104, Tryz.ntmps104
      go_wp2
      go_ret
      exact ⟨by rw [HL.out, h1, h2]; rfl, (((Below.refl _ _).alloc (Nat.le_refl _) _).alloc (by simp) _)⟩
    | false =>
      go_enter Tryz.func104, Tryz.ntmps104
      go_wp2
      go_ret
      exact ⟨by rw [HL.out, h1, h2]; rfl, (((Below.refl _ _).alloc (Nat.le_refl _) _).alloc (by simp) _)⟩

set_option maxRecDepth 100000 in
set_option maxHeartbeats 400000 in
theorem refOrder_any (B : Nat) (u v : Value) (l m : List Lab) (w : World) (hl : LabelsAt w B u l) (hm : LabelsAt w B v m) (hB : B ≤ w.heap.size) (hll : l.length ≤ 10000000000000) :
    Calls Tryz.prog 74 #[u, v] w fun e w' => e = .returned (.int .i64 (cmpLabs l m)) ∧ Below w.heap.size w w' := by
  obtain ⟨la, lc, rfl, _⟩ := id hl
  obtain ⟨ma, mc, rfl, _⟩ := id hm
  have HL := hide hl
  have HM := hide hm
  clear hl hm
  go_enter Tryz.func74, Tryz.ntmps74
  go_wp2
  go_loopw [5, 6, 7] (fun i _ _ wr => ∃ k : Nat, k ≤ l.length ∧ k ≤ m.length ∧ i = .int .i64 k ∧ Below w.heap.size w wr ∧ Hid (cmpLabs l m = cmpLabs (l.drop k) (m.drop k))) (fun i _ _ _ => l.length - (intOf i).toNat)
  case atStart => exact ⟨0, Nat.zero_le _, Nat.zero_le _, rfl, Below.refl _ _, rfl⟩
  case round =>
    obtain ⟨k, hk, hkm, rfl, hbl, HE⟩ := hrel
    have hsz := hbl.size
    have HBl := hide hbl
    clear hbl
    by_cases hlt : k < l.length
    · by_cases hltm : k < m.length
      · obtain ⟨x, hx⟩ : ∃ x, l[k]? = some x := ⟨_, List.getElem?_eq_getElem hlt⟩
        obtain ⟨b, o, rfl, hb, c1, c2⟩ := (HL.out.below HBl.out hB).get hx
        have hbw : b < wr.heap.size := by omega
        obtain ⟨y, hy⟩ : ∃ y, m[k]? = some y := ⟨_, List.getElem?_eq_getElem hltm⟩
        obtain ⟨b', o', rfl, hb', d1, d2⟩ := (HM.out.below HBl.out hB).get hy
        have hbw' : b' < wr.heap.size := by omega
        have HD := hide (cmpLabs_drop hx hy)
        have HC := hide (lessLab_cmp x y)
        obtain ⟨x1, x2⟩ := x
        obtain ⟨y1, y2⟩ := y
        have C1 := hide (less_any (x1, x2) (y1, y2))
        have C2 := hide (less_any (y1, y2) (x1, x2))
        clear hx hy
        have hsz2 := hsz
        generalize hq : cmpLab (x1, x2) (y1, y2) = q at *
        generalize hp1 : lessLab (x1, x2) (y1, y2) = p1 at *
        generalize hp2 : lessLab (y1, y2) (x1, x2) = p2 at *
        clear hq hp1 hp2
        go_wp2
        as_aux_lemma =>
          go_region_held3 (fun w' => w'.cell? ⟨b, o + k * 2, none⟩ = some (.string x1) ∧ w'.cell? ⟨b, o + k * 2 + 1, none⟩ = some (.string x2) ∧ w'.cell? ⟨b', o' + k * 2, none⟩ = some (.string y1) ∧ w'.cell? ⟨b', o' + k * 2 + 1, none⟩ = some (.string y2)) (go_keep) (first | (go_at_call 104; refine (C1.out _).mono ?_; rintro e w2 ⟨rfl, hb2⟩; have e1 := (Below.cell hb2 (p := ⟨b, o + k * 2, none⟩) (by show b < wr.heap.size; omega)).trans c1; have e2 := (Below.cell hb2 (p := ⟨b, o + k * 2 + 1, none⟩) (by show b < wr.heap.size; omega)).trans c2; have e3 := (Below.cell hb2 (p := ⟨b', o' + k * 2, none⟩) (by show b' < wr.heap.size; omega)).trans d1; have e4 := (Below.cell hb2 (p := ⟨b', o' + k * 2 + 1, none⟩) (by show b' < wr.heap.size; omega)).trans d2))
          all_goals
            have HB2 := hide (HBl.out.drew.trans (hb2.mono (by show w.heap.size ≤ wr.heap.size; omega)))
            have hs2 : wr.heap.size ≤ w2.heap.size := hb2.size
            clear hb2 c1 c2 d1 d2 HBl
            go_wp2
            as_aux_lemma =>
              go_region_held3 (fun w' => w'.cell? ⟨b, o + k * 2, none⟩ = some (.string x1) ∧ w'.cell? ⟨b, o + k * 2 + 1, none⟩ = some (.string x2) ∧ w'.cell? ⟨b', o' + k * 2, none⟩ = some (.string y1) ∧ w'.cell? ⟨b', o' + k * 2 + 1, none⟩ = some (.string y2)) (go_keep) (first | (go_at_call 104; refine (C2.out _).mono ?_; rintro e w3 ⟨rfl, hb3⟩; have g1 := (Below.cell hb3 (p := ⟨b, o + k * 2, none⟩) (by show b < w2.heap.size; omega)).trans e1; have g2 := (Below.cell hb3 (p := ⟨b, o + k * 2 + 1, none⟩) (by show b < w2.heap.size; omega)).trans e2; have g3 := (Below.cell hb3 (p := ⟨b', o' + k * 2, none⟩) (by show b' < w2.heap.size; omega)).trans e3; have g4 := (Below.cell hb3 (p := ⟨b', o' + k * 2 + 1, none⟩) (by show b' < w2.heap.size; omega)).trans e4))
              all_goals
                have HB3 := hide (HB2.out.drew.trans (hb3.mono (by show w.heap.size ≤ w2.heap.size; omega)))
                clear hb3 e1 e2 e3 e4 g1 g2 g3 g4 HB2
                cases p1 with
                | true =>
                  have hq : q = -1 := HC.out.1.1 rfl
                  have HQ : Hid (cmpLabs l m = -1) := by show _ = _; rw [HE.out, HD.out, hq]; rfl
                  clear hq HC HD HE
                  go_wp2
                  go_ret
                  exact ⟨ret_int HQ.out.symm, HB3.out⟩
                | false =>
                  cases p2 with
                  | true =>
                    have hq : q = 1 := HC.out.2.1.1 rfl
                    have HQ : Hid (cmpLabs l m = 1) := by show _ = _; rw [HE.out, HD.out, hq]; rfl
                    clear hq HC HD HE
                    go_wp2
                    go_ret
                    exact ⟨ret_int HQ.out.symm, HB3.out⟩
                  | false =>
                    have hq : q = 0 := by
                      rcases HC.out.2.2 with h | h | h
                      · cases HC.out.1.2 h
                      · exact h
                      · cases HC.out.2.1.2 h
                    have HQ : Hid (cmpLabs l m = cmpLabs (l.drop (k + 1)) (m.drop (k + 1))) := by show _ = _; rw [HE.out, HD.out, hq]; rfl
                    clear hq HC HD HE
                    go_wp2
                    go_roundw
                    case rel => exact ⟨k + 1, by omega, by omega, by go_num, HB3.out, HQ.out⟩
                    case measure => simp [intOf]; omega
      · obtain ⟨x, hx⟩ : ∃ x, l[k]? = some x := ⟨_, List.getElem?_eq_getElem hlt⟩
        have hend : cmpLabs l m = 1 := HE.out.trans (cmpLabs_end1 (by omega) hx)
        have HEnd := hide hend
        clear hx hend HE
        have h1 : ¬ l.length < m.length := by omega
        have h2 : m.length < l.length := by omega
        go_wp2
        go_ret
        exact ⟨ret_int HEnd.out.symm, HBl.out⟩
    · have hend : cmpLabs l m = if l.length < m.length then -1 else 0 := HE.out.trans (cmpLabs_end2 (by omega) (by omega))
      have HEnd := hide hend
      clear hend
      by_cases hlm2 : l.length < m.length
      · rw [if_pos hlm2] at HEnd
        go_wp2
        go_ret
        exact ⟨ret_int HEnd.out.symm, HBl.out⟩
      · rw [if_neg hlm2] at HEnd
        have h2 : ¬ m.length < l.length := by omega
        go_wp2
        go_ret
        exact ⟨ret_int HEnd.out.symm, HBl.out⟩

set_option maxRecDepth 100000 in
set_option maxHeartbeats 400000 in
theorem refWithin_any (B : Nat) (v : Value) (bs : List Ser) (w : World) (hS : BatchAt w B v bs) (hB : B ≤ w.heap.size) (hll : bs.length ≤ 10000000000000) :
    Calls Tryz.prog 50 #[v] w fun e w' => BoolOf e (LimitsOk bs) ∧ Below w.heap.size w w' := by
  obtain ⟨a, c, rfl, _⟩ := id hS
  have HS := hide hS
  clear hS
  by_cases h8 : 8 < bs.length
  · go_enter Tryz.func50, Tryz.ntmps50
    go_wp2
    go_ret
    exact ⟨BoolOf.no (fun h => by have := h.2; omega), Below.refl _ _⟩
  · go_enter Tryz.func50, Tryz.ntmps50
    go_wp2
    go_loopw [3] (fun i wr => ∃ k : Nat, k ≤ bs.length ∧ i = .int .i64 k ∧ Below w.heap.size w wr ∧ Hid (LimTo bs k)) (fun i _ => bs.length - (intOf i).toNat)
    case atStart => exact ⟨0, Nat.zero_le _, rfl, Below.refl _ _, fun i x h => by omega⟩
    case round =>
      obtain ⟨k, hk, rfl, hbl, HR⟩ := hrel
      have hsz := hbl.size
      have HBl := hide hbl
      clear hbl
      by_cases hlt : k < bs.length
      · obtain ⟨⟨y1, y2⟩, hy⟩ : ∃ y, bs[k]? = some y := ⟨_, List.getElem?_eq_getElem hlt⟩
        obtain ⟨b, o, la, lc, sa, sc, rfl, hb, c1, c2, _, _⟩ := (HS.out.below HBl.out hB).get hy
        have hbw : b < wr.heap.size := by omega
        have HY := hide hy
        clear hy
        simp only at c1 c2
        by_cases h1 : 4 < y1.length
        · have hno : ¬ LimitsOk bs := fun h => by have h2 : y1.length ≤ 4 := (h.1 k _ hlt HY.out).1; omega
          have HNo := hide hno
          clear hno HR HY
          go_wp2
          go_ret
          exact ⟨BoolOf.no HNo.out, HBl.out⟩
        · by_cases h2 : 40 < y2.length
          · have hno : ¬ LimitsOk bs := fun h => by have h2 : y2.length ≤ 40 := (h.1 k _ hlt HY.out).2; omega
            have HNo := hide hno
            clear hno HR HY
            go_wp2
            go_ret
            exact ⟨BoolOf.no HNo.out, HBl.out⟩
          · go_wp2
            go_roundw
            case rel => exact ⟨k + 1, by omega, by go_num, HBl.out, HR.out.succ HY.out (by show y1.length ≤ 4; omega) (by show y2.length ≤ 40; omega)⟩
            case measure => simp [intOf]; omega
      · have hke : k = bs.length := by omega
        have HY : Hid (LimTo bs bs.length) := by show LimTo bs bs.length; rw [← hke]; exact HR.out
        clear hke
        go_wp2
        go_ret
        exact ⟨BoolOf.yes ⟨HY.out, by omega⟩, HBl.out⟩
end Go.Proofs.YtamcclcbmenjdaaGreatDoor

/- The reference: Good. -/
namespace Go.Proofs.YtamcclcbmenjdaaGreatDoor
open Go.RowKit Go.Lib

theorem empty_size (x : ByteArray) : x.toList.isEmpty = decide (x.size < 1) := by
  rw [ByteArray.toList_eq]
  cases h : x.data.toList with
  | nil => have h2 : x.size = 0 := by show x.data.size = 0; rw [← Array.length_toList, h]; rfl
           simp [h2]
  | cons a r => have h2 : x.size = r.length + 1 := by show x.data.size = _; rw [← Array.length_toList, h]; rfl
                simp [h2]
theorem rises_one (l : List (Int × Nat)) : RisesTo l 1 := fun i x y h => by omega
theorem rises_more {l : List (Int × Nat)} {k : Nat} {x y : Int × Nat} (h : RisesTo l (k + 1)) (hx : l[k]? = some x) (hy : l[k + 1]? = some y) (hlt : x.1 < y.1) : RisesTo l (k + 2) := fun i u v hi hu hv => by
  by_cases e : i = k
  · subst e
    rw [hx] at hu; rw [hy] at hv
    cases hu; cases hv; exact hlt
  · exact h i u v (by omega) hu hv

set_option maxRecDepth 100000 in
set_option maxHeartbeats 4000000 in
theorem refGood_any (B : Nat) (v : Value) (bs : List Ser) (w : World) (hS : BatchAt w B v bs) (hB : B ≤ w.heap.size) (hsm : Small bs) :
    Calls Tryz.prog 144 #[v] w fun e w' => BoolOf e (BatchOk bs) ∧ Below w.heap.size w w' := by
  obtain ⟨a, c, rfl, _⟩ := id hS
  have HS := hide hS
  have hll := hsm.series
  have HSm := hide hsm
  clear hS hsm
  go_enter Tryz.func144, Tryz.ntmps144
  go_wp2
  go_loopw [3, 4, 5, 6, 7] (fun i _ _ _ _ wr => ∃ k : Nat, k ≤ bs.length ∧ i = .int .i64 k ∧ Below w.heap.size w wr ∧ Hid (BatTo bs k)) (fun i _ _ _ _ _ => bs.length - (intOf i).toNat)
  case atStart => exact ⟨0, Nat.zero_le _, rfl, Below.refl _ _, ⟨fun i x h => by omega, fun i x y h => by omega⟩⟩
  case round =>
    generalize wr = W0 at *
    obtain ⟨k, hk, rfl, hbl, HR⟩ := hrel
    have hsz := hbl.size
    have HBl := hide hbl
    clear hbl
    by_cases hlt : k < bs.length
    · obtain ⟨⟨y1, y2⟩, hy⟩ : ∃ y, bs[k]? = some y := ⟨_, List.getElem?_eq_getElem hlt⟩
      have KS := HS.out.below HBl.out hB
      obtain ⟨b, o, la, lc, sa, sc, rfl, hb, c1, c2, hLa, hSa⟩ := KS.get hy
      have hbw : b < W0.heap.size := by omega
      have hym := List.mem_of_getElem? hy
      have hl1 : y1.length ≤ 10000000000000 := HSm.out.labels _ hym
      have hl2 : y2.length ≤ 10000000000000 := HSm.out.samples _ hym
      have HY := hide hy
      have HLa := hide hLa
      have HSa := hide hSa
      have HKS := hide KS
      clear hy hym KS hLa hSa
      simp only at c1 c2
      go_wp2
      go_loopw [5] (fun q wr2 => ∃ t : Nat, t ≤ y1.length ∧ q = .int .i64 t ∧ Below W0.heap.size W0 wr2 ∧ Hid (LabsTo y1 t)) (fun q _ => y1.length - (intOf q).toNat)
      case atStart => exact ⟨0, Nat.zero_le _, rfl, Below.refl _ _, ⟨fun i x h => by omega, fun i x y h => by omega⟩⟩
      case round =>
        obtain ⟨t, ht, rfl, hb2, HR2⟩ := hrel
        have hsz2 := hb2.size
        have HB2 := hide hb2
        have HBA := hide (HBl.out.trans (hb2.mono hsz))
        clear hb2
        by_cases hlt2 : t < y1.length
        · obtain ⟨⟨p1, p2⟩, hp⟩ : ∃ p, y1[t]? = some p := ⟨_, List.getElem?_eq_getElem hlt2⟩
          have KL := HLa.out.below HB2.out (by omega)
          obtain ⟨lb, lo, rfl, hlb, e1, e2⟩ := KL.get hp
          have hlbw : lb < wr.heap.size := by omega
          have HP := hide hp
          clear hp
          simp only at e1 e2
          by_cases h1 : p1.size < 1
          · have hno : ¬ BatchOk bs := fun h => by have h3 := ((h.1 k _ hlt HY.out).1.1 t _ hlt2 HP.out).1; rw [empty_size] at h3; exact of_decide_eq_false h3 h1
            have g1 : (p1.size : Int) < 1 := by omega
            have HNo := hide hno
            clear hno HR HY HP HR2
            go_wp2
            go_quiet (fail)
            go_wp2
            go_ret
            exact ⟨BoolOf.no HNo.out, below_drewN HBA.out _⟩
          have g1 : ¬ (p1.size : Int) < 1 := by omega
          have g1b : ¬ p1.size = 0 := by omega
          have g1c : decide (p1.size < 1) = false := decide_eq_false h1
          have g1d : decide ((p1.size : Int) < 1) = false := decide_eq_false g1
          by_cases h2 : 16 < p1.size
          · have hno : ¬ BatchOk bs := fun h => by have h3 : p1.size ≤ 16 := ((h.1 k _ hlt HY.out).1.1 t _ hlt2 HP.out).2.1; omega
            have g2 : (16 : Int) < (p1.size : Int) := by omega
            have g2c : decide (16 < p1.size) = true := decide_eq_true h2
            have HNo := hide hno
            clear hno HR HY HP HR2
            go_wp2
            go_quiet (fail)
            go_wp2
            go_ret
            exact ⟨BoolOf.no HNo.out, below_drewN HBA.out _⟩
          have g2 : ¬ (16 : Int) < (p1.size : Int) := by omega
          have g2c : decide (16 < p1.size) = false := decide_eq_false h2
          have g2d : decide ((16 : Int) < (p1.size : Int)) = false := decide_eq_false g2
          by_cases h3 : 16 < p2.size
          · have hno : ¬ BatchOk bs := fun h => by have h3 : p2.size ≤ 16 := ((h.1 k _ hlt HY.out).1.1 t _ hlt2 HP.out).2.2; omega
            have g3 : (16 : Int) < (p2.size : Int) := by omega
            have g3c : decide (16 < p2.size) = true := decide_eq_true h3
            have HNo := hide hno
            clear hno HR HY HP HR2
            go_wp2
            go_quiet (fail)
            go_wp2
            go_ret
            exact ⟨BoolOf.no HNo.out, below_drewN HBA.out _⟩
          have g3 : ¬ (16 : Int) < (p2.size : Int) := by omega
          have g3c : decide (16 < p2.size) = false := decide_eq_false h3
          have g3d : decide ((16 : Int) < (p2.size : Int)) = false := decide_eq_false g3
          have hok : KeyOk (p1, p2) := ⟨by rw [empty_size]; exact decide_eq_false h1, by show p1.size ≤ 16; omega, by show p2.size ≤ 16; omega⟩
          have HOk := hide hok
          clear hok
          cases t with
          | zero =>
            simp only [Nat.zero_mul, Nat.add_zero] at e1 e2
            go_wp2
            go_quiet (fail)
            go_wp2
            go_roundw
            case rel => exact ⟨1, by omega, by go_num, below_drewN HB2.out _, HR2.out.one HOk.out HP.out⟩
            case measure => simp [intOf]; omega
          | succ j =>
            obtain ⟨⟨x1, x2⟩, hx⟩ : ∃ x, y1[j]? = some x := ⟨_, List.getElem?_eq_getElem (by omega)⟩
            obtain ⟨b2, o2, hh2, _, d1, _⟩ := KL.get hx
            cases hh2
            have HX := hide hx
            clear hx
            simp only at d1
            have hj0 : (0 : Int) < ((j + 1 : Nat) : Int) := by omega
            have hj1 : (j : Int) < (y1.length : Int) := by omega
            have hj2 : (0 : Int) ≤ (j : Int) := by omega
            have hjw : IntKind.i64.wrap (j : Int) = (j : Int) := by rw [IntKind.wrap_i64]; omega
            have hjw2 : IntKind.i64.wrap (((j + 1 : Nat) : Int) - 1) = (j : Int) := by rw [IntKind.wrap_i64]; omega
            cases hless : Op.bytesLess x1.toList p1.toList with
            | false =>
              have hno : ¬ BatchOk bs := fun h => by have h4 := (h.1 k _ hlt HY.out).1.2 j _ _ (by omega) HX.out HP.out; simp [hless] at h4
              have HNo := hide hno
              clear hno HR HY HP HR2
              go_wp2
              go_quiet (fail)
              go_wp2
              go_ret
              exact ⟨BoolOf.no HNo.out, below_drewN HBA.out _⟩
            | true =>
              go_wp2
              go_quiet (fail)
              go_wp2
              go_roundw
              case rel => exact ⟨j + 2, by omega, by go_num, below_drewN HB2.out _, HR2.out.succ HX.out HP.out HOk.out hless⟩
              case measure => simp [intOf]; omega
        · have hte : t = y1.length := by omega
          have HLok : Hid (LabelsOk y1) := by show LabsTo y1 y1.length; rw [← hte]; exact HR2.out
          generalize wr = W1 at *
          have k1 := (HB2.out.cell (p := ⟨b, o + k * 2, none⟩) hbw).trans c1
          have k2 := (HB2.out.cell (p := ⟨b, o + k * 2 + 1, none⟩) hbw).trans c2
          have hbw1 : b < W1.heap.size := by omega
          clear c1 c2 HR2 hte
          by_cases h0 : y2.length < 1
          · have hno : ¬ BatchOk bs := fun h => (h.1 k _ hlt HY.out).2.1 (List.eq_nil_of_length_eq_zero (by show y2.length = 0; omega))
            have g0 : (y2.length : Int) < 1 := by omega
            have g0b : y2.length = 0 := by omega
            have g0c : decide (y2.length < 1) = true := decide_eq_true h0
            have HNo := hide hno
            clear hno HR HY
            go_wp2
            go_ret
            exact ⟨BoolOf.no HNo.out, HBA.out⟩
          have g0 : ¬ (y2.length : Int) < 1 := by omega
          have g0b : ¬ y2.length = 0 := by omega
          have g0c : decide (y2.length < 1) = false := decide_eq_false h0
          have g0d : decide ((y2.length : Int) < 1) = false := decide_eq_false g0
          go_wp2
          go_loopw [6] (fun q wr3 => ∃ t : Nat, 1 ≤ t ∧ t ≤ y2.length ∧ q = .int .i64 t ∧ Below W1.heap.size W1 wr3 ∧ Hid (RisesTo y2 t)) (fun q _ => y2.length - (intOf q).toNat)
          case atStart => exact ⟨1, by omega, by omega, rfl, Below.refl _ _, rises_one y2⟩
          case round =>
            obtain ⟨u, hu1, hu, rfl, hb3, HR3⟩ := hrel
            have hsz3 := hb3.size
            have HB3 := hide hb3
            have HBC := hide (HBA.out.trans (hb3.mono (by omega)))
            have m1 := (hb3.cell (p := ⟨b, o + k * 2, none⟩) hbw1).trans k1
            have m2 := (hb3.cell (p := ⟨b, o + k * 2 + 1, none⟩) hbw1).trans k2
            have hbw3 : b < wr.heap.size := by omega
            clear hb3
            by_cases hlt3 : u < y2.length
            · obtain ⟨j, rfl⟩ : ∃ j, u = j + 1 := ⟨u - 1, by omega⟩
              obtain ⟨⟨x1, x2⟩, hx⟩ : ∃ x, y2[j]? = some x := ⟨_, List.getElem?_eq_getElem (by omega)⟩
              obtain ⟨⟨z1, z2⟩, hz⟩ : ∃ x, y2[j + 1]? = some x := ⟨_, List.getElem?_eq_getElem (by omega)⟩
              have KS3 := (HSa.out.below HB2.out (by omega)).below HB3.out (by omega)
              obtain ⟨sb, so, rfl, hsb, e1, _⟩ := KS3.get hx
              obtain ⟨sb2, so2, hh3, _, e2, _⟩ := KS3.get hz
              cases hh3
              have HX := hide hx
              have HZ := hide hz
              clear hx hz KS3
              simp only at e1 e2
              have hj1 : (j : Int) < (y2.length : Int) := by omega
              have hj2 : (0 : Int) ≤ (j : Int) := by omega
              have hjw : IntKind.i64.wrap (j : Int) = (j : Int) := by rw [IntKind.wrap_i64]; omega
              have hjw2 : IntKind.i64.wrap (((j + 1 : Nat) : Int) - 1) = (j : Int) := by rw [IntKind.wrap_i64]; omega
              by_cases hge : z1 ≤ x1
              · have hno : ¬ BatchOk bs := fun h => by have h4 : x1 < z1 := (h.1 k _ hlt HY.out).2.2 j _ _ (by omega) HX.out HZ.out; omega
                have HNo := hide hno
                clear hno HR HY HX HZ HR3
                go_wp2
                go_quiet (fail)
                go_wp2
                go_ret
                exact ⟨BoolOf.no HNo.out, below_drewN HBC.out _⟩
              · have HR4 := hide (rises_more HR3.out HX.out HZ.out (by show x1 < z1; omega))
                clear HR3 HX HZ
                go_wp2
                go_quiet (fail)
                go_wp2
                go_roundw
                case rel => exact ⟨j + 2, by omega, by omega, by go_num, below_drewN HB3.out _, HR4.out⟩
                case measure => simp [intOf]; omega
            · have hue : u = y2.length := by omega
              have HSok : Hid (SamplesOk y2) := ⟨fun e => by rw [e] at h0; exact h0 (by simp), by rw [← hue]; exact HR3.out⟩
              clear HR3 hue
              cases k with
              | zero =>
                go_wp2
                go_roundw
                case rel => exact ⟨1, by omega, by go_num, HBC.out, HR.out.one HY.out HLok.out HSok.out⟩
                case measure => simp [intOf]; omega
              | succ j =>
                obtain ⟨⟨x1, x2⟩, hx⟩ : ∃ x, bs[j]? = some x := ⟨_, List.getElem?_eq_getElem (by omega)⟩
                have K3 := (HKS.out.below HB2.out (by omega)).below HB3.out (by omega)
                obtain ⟨b2, o2, la2, lc2, sa2, sc2, hh2, hb2, d1, _, hL2, _⟩ := K3.get hx
                cases hh2
                have hLy := (HLa.out.below HB2.out (by omega)).below HB3.out (by omega)
                have C := hide (refOrder_any B _ _ x1 y1 wr hL2 hLy (by omega) (HSm.out.labels _ (List.mem_of_getElem? hx)))
                have HX := hide hx
                clear hx K3 hL2 hLy
                simp only at d1
                have hj0 : (0 : Int) < ((j + 1 : Nat) : Int) := by omega
                have hj1 : (j : Int) < (bs.length : Int) := by omega
                have hj2 : (0 : Int) ≤ (j : Int) := by omega
                have hjw : IntKind.i64.wrap (j : Int) = (j : Int) := by rw [IntKind.wrap_i64]; omega
                have hjw2 : IntKind.i64.wrap (((j + 1 : Nat) : Int) - 1) = (j : Int) := by rw [IntKind.wrap_i64]; omega
                generalize hcq : cmpLabs x1 y1 = q at *
                have HQ : Hid (cmpLabs x1 y1 = q) := hcq
                clear hcq
                go_wp2_with fail
                refine C.out.mono ?_
                rintro e w4 ⟨rfl, hb4⟩
                have HB4 := hide (HBC.out.trans (hb4.mono (by omega)))
                clear hb4 m1 m2 d1 C
                by_cases hc : 0 ≤ q
                · have hno : ¬ BatchOk bs := fun h => by have h2 : cmpLabs x1 y1 < 0 := h.2 j _ _ (by omega) HX.out HY.out; rw [HQ.out] at h2; omega
                  have HNo := hide hno
                  clear hno HR HY HX
                  go_wp2
                  go_ret
                  exact ⟨BoolOf.no HNo.out, HB4.out⟩
                · have HR5 := hide (HR.out.succ HX.out HY.out HLok.out HSok.out (by show cmpLabs x1 y1 < 0; rw [HQ.out]; omega))
                  clear HR HY HX
                  go_wp2
                  go_roundw
                  case rel => exact ⟨j + 2, by omega, by go_num, HB4.out, HR5.out⟩
                  case measure => simp [intOf]; omega
    · have hke : k = bs.length := by omega
      have HY : Hid (BatchOk bs) := by show BatTo bs bs.length; rw [← hke]; exact HR.out
      clear hke
      go_wp2
      go_ret
      exact ⟨BoolOf.yes HY.out, HBl.out⟩
end Go.Proofs.YtamcclcbmenjdaaGreatDoor

/- The reference: Check, Encode. -/
namespace Go.Proofs.YtamcclcbmenjdaaGreatDoor
open Go.RowKit Go.Lib

theorem Code.unique {bs : List Ser} {n m : Nat} (h : Code bs n) (g : Code bs m) : n = m := by
  rcases h with ⟨rfl, h⟩ | ⟨rfl, h, h'⟩ | ⟨rfl, h, h'⟩ <;> rcases g with ⟨rfl, g⟩ | ⟨rfl, g, g'⟩ | ⟨rfl, g, g'⟩ <;> first | rfl | exact absurd g h | exact absurd h g | exact absurd g' h' | exact absurd h' g'

set_option maxRecDepth 100000 in
set_option maxHeartbeats 400000 in
theorem refCheck_any (B : Nat) (v : Value) (bs : List Ser) (w : World) (hS : BatchAt w B v bs) (hB : B ≤ w.heap.size) (hsm : Small bs) :
    Calls Tryz.prog 121 #[v] w fun e w' => (∃ n : Nat, e = .returned (.int .i64 n) ∧ Code bs n) ∧ Below w.heap.size w w' := by
  obtain ⟨a, c, rfl, _⟩ := id hS
  have C1 := hide (refGood_any B _ bs w hS hB hsm)
  have HS := hide hS
  have HSm := hide hsm
  clear hS hsm
  go_enter Tryz.func121, Tryz.ntmps121
  go_wp2_with fail
  refine C1.out.mono ?_
  rintro e w1 ⟨⟨r1, rfl, hr1⟩, hb1⟩
  have hs1 := hb1.size
  have C2 := hide (refWithin_any B _ bs w1 (HS.out.below hb1 hB) (by omega) HSm.out.series)
  have HB1 := hide hb1
  have HR1 := hide hr1
  clear hb1 hr1 C1
  go_wp2_with fail
  refine C2.out.mono ?_
  rintro e w2 ⟨⟨r2, rfl, hr2⟩, hb2⟩
  have HB2 := hide (HB1.out.trans (hb2.mono hs1))
  have HR2 := hide hr2
  clear hb2 hr2 C2
  cases r1 with
  | false =>
    have HC : Hid (Code bs 1) := .inl ⟨rfl, fun h => by have := HR1.out.2 h; cases this⟩
    go_wp2
    go_ret
    exact ⟨⟨1, rfl, HC.out⟩, HB2.out⟩
  | true =>
    cases r2 with
    | false =>
      have HC : Hid (Code bs 2) := .inr (.inl ⟨rfl, HR1.out.1 rfl, fun h => by have := HR2.out.2 h; cases this⟩)
      go_wp2
      go_ret
      exact ⟨⟨2, rfl, HC.out⟩, HB2.out⟩
    | true =>
      have HC : Hid (Code bs 0) := .inr (.inr ⟨rfl, HR1.out.1 rfl, HR2.out.1 rfl⟩)
      go_wp2
      go_ret
      exact ⟨⟨0, rfl, HC.out⟩, HB2.out⟩

set_option maxRecDepth 100000 in
set_option maxHeartbeats 400000 in
theorem refEncode_any (B : Nat) (v : Value) (bs : List Ser) (w : World) (hS : BatchAt w B v bs) (hB : B ≤ w.heap.size) (hsm : Small bs) :
    Calls Tryz.prog 88 #[v] w fun e w' => (∃ n : Nat, Code bs n ∧ e = .returned (.tuple #[.string (if n = 0 then ⟨(frameOf (payload bs)).toArray⟩ else ByteArray.empty), .int .i64 n])) ∧ Below w.heap.size w w' := by
  obtain ⟨a, c, rfl, _⟩ := id hS
  have C1 := hide (refCheck_any B _ bs w hS hB hsm)
  have HS := hide hS
  clear hS hsm
  go_enter Tryz.func88, Tryz.ntmps88
  go_wp2_with fail
  refine C1.out.mono ?_
  rintro e w1 ⟨⟨n, rfl, hn⟩, hb1⟩
  have hs1 := hb1.size
  have HB1 := hide hb1
  have hn' := hn
  rcases hn' with ⟨rfl, _⟩ | ⟨rfl, _, _⟩ | ⟨rfl, h1, h2⟩
  · have HN := hide hn
    clear hn hb1 C1
    go_wp2
    go_ret2
    exact ⟨⟨1, HN.out, rfl⟩, HB1.out⟩
  · have HN := hide hn
    clear hn hb1 C1
    go_wp2
    go_ret2
    exact ⟨⟨2, HN.out, rfl⟩, HB1.out⟩
  · have HN := hide hn
    have C2 := hide (refFrame_any B _ bs w1 (HS.out.below hb1 hB) (by omega) (fits_of h1 h2))
    clear hn hb1 C1 h1 h2
    go_wp2_with fail
    refine C2.out.mono ?_
    rintro e w2 ⟨rfl, hb2⟩
    have HB2 := hide (HB1.out.trans (hb2.mono hs1))
    clear hb2 C2
    go_wp2
    go_ret2
    exact ⟨⟨0, HN.out, rfl⟩, HB2.out⟩
end Go.Proofs.YtamcclcbmenjdaaGreatDoor

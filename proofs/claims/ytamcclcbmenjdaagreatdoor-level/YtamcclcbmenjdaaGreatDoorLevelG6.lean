/- 'choirkeep.Level', for any list of steps (100 of them are done): when all are up, nothing is under way, and each has told each other one, all have the same, and compacted logs are the same bytes. The first form's statement and its card: no condition beside the row's own. -/
import Derived.Test.YtamcclcbmenjdaaGreatDoorLevelG5
import Derived.Test.YtamcclcbmenjdaaGreatDoorLevelG2
import Derived.Test.YtamcclcbmenjdaaGreatDoorLevelG1
import Derived.Laws.BitsLemmas
import Derived.Laws.Bits64
import Derived.Laws.Bits64b
/- batch.Same: are two lists of series the same? -/
namespace Go.Proofs.YtamcclcbmenjdaaGreatDoor
open Go.RowKit Go.Lib

theorem LabelsAt.mono {w : World} {B B' : Nat} {v : Value} {l : List Lab} (h : LabelsAt w B v l) (hB : B ≤ B') : LabelsAt w B' v l := by
  obtain ⟨a, c, e, hc, h2⟩ := h
  exact ⟨a, c, e, hc, h2.imp id fun ⟨b, o, ha, hb, hh⟩ => ⟨b, o, ha, by omega, hh⟩⟩
theorem SamplesAt.mono {w : World} {B B' : Nat} {v : Value} {l : List (Int × Nat)} (h : SamplesAt w B v l) (hB : B ≤ B') : SamplesAt w B' v l := by
  obtain ⟨a, c, e, hc, hr, h2⟩ := h
  exact ⟨a, c, e, hc, hr, h2.imp id fun ⟨b, o, ha, hb, hh⟩ => ⟨b, o, ha, by omega, hh⟩⟩

set_option maxRecDepth 100000 in
set_option maxHeartbeats 1000000 in
theorem eqLab_any (w : World) (B : Nat) (v1 v2 : Value) (l m : List Lab) (h1 : LabelsAt w B v1 l) (h2 : LabelsAt w B v2 m) (hm : m.length ≤ 10000000000000) :
    Calls Tryz.prog 167 #[v1, v2] w fun e w' => BoolOf e (l = m) ∧ ∃ q, w' = w.drewN q := by
  obtain ⟨a1, c1, rfl, _⟩ := id h1
  obtain ⟨a2, c2, rfl, _⟩ := id h2
  have H1 := hide h1
  have H2 := hide h2
  clear h1 h2
  by_cases hll : l.length = m.length
  · rw [hll] at H1 ⊢
    have HLL := hide hll
    go_enter Tryz.func167, Tryz.ntmps167
    go_wp2
    go_loopw [5, 13] (fun _ i wr => ∃ j q : Nat, j ≤ m.length ∧ i = .int .i64 j ∧ wr = w.drewN q ∧ Hid (l.take j = m.take j)) (fun _ i _ => m.length - (intOf i).toNat)
    case atStart => exact ⟨0, 0, Nat.zero_le _, rfl, rfl, rfl⟩
    case round =>
      obtain ⟨j, q, hj, rfl, rfl, HTk⟩ := hrel
      by_cases hjl : j < m.length
      · obtain ⟨⟨kx, vx⟩, hx⟩ : ∃ x, l[j]? = some x := ⟨_, List.getElem?_eq_getElem (by have := HLL.out; omega)⟩
        obtain ⟨⟨ky, vy⟩, hy⟩ : ∃ x, m[j]? = some x := ⟨_, List.getElem?_eq_getElem hjl⟩
        obtain ⟨e1, f1, rfl, u1, u2⟩ := labGet H1.out hx
        obtain ⟨e2, f2, rfl, v1, v2⟩ := labGet H2.out hy
        simp only at u1 u2 v1 v2
        have HT2 := hide (take_eq_more hx hy)
        clear hx hy hll
        by_cases hk : kx = ky
        · subst hk
          by_cases hv : vx = vy
          · subst hv
            go_wp2
            go_quiet (fail)
            go_wp2
            go_roundw
            case rel => exact ⟨j + 1, _, by omega, by go_num, by first | rfl | exact drewN_two _ _ _, HT2.out.2 ⟨HTk.out, by trivial⟩⟩
            case measure => simp [intOf]; omega
          · have hvb := str_ne hv
            go_wp2
            go_quiet (fail)
            go_wp2
            go_ret
            exact ⟨BoolOf.no fun e => hv (Prod.mk.inj (HT2.out.1 (by rw [e])).2).2, _, by first | rfl | exact drewN_two _ _ _⟩
        · have hkb := str_ne hk
          go_wp2
          go_quiet (fail)
          go_wp2
          go_ret
          exact ⟨BoolOf.no fun e => hk (Prod.mk.inj (HT2.out.1 (by rw [e])).2).1, _, by first | rfl | exact drewN_two _ _ _⟩
      · have HLe : Hid (l = m) := (take_all HLL.out (by have := HLL.out; omega : l.length ≤ j)).1 HTk.out
        clear hll
        go_wp2
        go_ret
        exact ⟨BoolOf.yes HLe.out, _, rfl⟩
  · have HN : Hid (l ≠ m) := fun e => hll (by rw [e])
    have hi : ¬ (l.length : Int) = (m.length : Int) := by omega
    go_enter Tryz.func167, Tryz.ntmps167
    go_wp2
    go_ret
    exact ⟨BoolOf.no HN.out, 0, rfl⟩

set_option maxRecDepth 100000 in
set_option maxHeartbeats 1000000 in
theorem eqSam_any (w : World) (B : Nat) (v1 v2 : Value) (l m : List (Int × Nat)) (h1 : SamplesAt w B v1 l) (h2 : SamplesAt w B v2 m) (hm : m.length ≤ 10000000000000) :
    Calls Tryz.prog 168 #[v1, v2] w fun e w' => BoolOf e (l = m) ∧ ∃ q, w' = w.drewN q := by
  obtain ⟨a1, c1, rfl, _⟩ := id h1
  obtain ⟨a2, c2, rfl, _⟩ := id h2
  have H1 := hide h1
  have H2 := hide h2
  clear h1 h2
  by_cases hll : l.length = m.length
  · rw [hll] at H1 ⊢
    have HLL := hide hll
    go_enter Tryz.func168, Tryz.ntmps168
    go_wp2
    go_loopw [5, 13] (fun _ i wr => ∃ j q : Nat, j ≤ m.length ∧ i = .int .i64 j ∧ wr = w.drewN q ∧ Hid (l.take j = m.take j)) (fun _ i _ => m.length - (intOf i).toNat)
    case atStart => exact ⟨0, 0, Nat.zero_le _, rfl, rfl, rfl⟩
    case round =>
      obtain ⟨j, q, hj, rfl, rfl, HTk⟩ := hrel
      by_cases hjl : j < m.length
      · obtain ⟨⟨kx, vx⟩, hx⟩ : ∃ x, l[j]? = some x := ⟨_, List.getElem?_eq_getElem (by have := HLL.out; omega)⟩
        obtain ⟨⟨ky, vy⟩, hy⟩ : ∃ x, m[j]? = some x := ⟨_, List.getElem?_eq_getElem hjl⟩
        obtain ⟨e1, f1, rfl, u1, u2⟩ := samGet H1.out hx
        obtain ⟨e2, f2, rfl, v1, v2⟩ := samGet H2.out hy
        simp only at u1 u2 v1 v2
        have HT2 := hide (take_eq_more hx hy)
        clear hx hy hll
        by_cases hk : kx = ky
        · subst hk
          by_cases hv : vx = vy
          · subst hv
            go_wp2
            go_quiet (fail)
            go_wp2
            go_roundw
            case rel => exact ⟨j + 1, _, by omega, by go_num, by first | rfl | exact drewN_two _ _ _, HT2.out.2 ⟨HTk.out, by trivial⟩⟩
            case measure => simp [intOf]; omega
          · have hvi : ¬ (vx : Int) = (vy : Int) := by omega
            go_wp2
            go_quiet (fail)
            go_wp2
            go_ret
            exact ⟨BoolOf.no fun e => hv (Prod.mk.inj (HT2.out.1 (by rw [e])).2).2, _, by first | rfl | exact drewN_two _ _ _⟩
        · go_wp2
          go_quiet (fail)
          go_wp2
          go_ret
          exact ⟨BoolOf.no fun e => hk (Prod.mk.inj (HT2.out.1 (by rw [e])).2).1, _, by first | rfl | exact drewN_two _ _ _⟩
      · have HLe : Hid (l = m) := (take_all HLL.out (by have := HLL.out; omega : l.length ≤ j)).1 HTk.out
        clear hll
        go_wp2
        go_ret
        exact ⟨BoolOf.yes HLe.out, _, rfl⟩
  · have HN : Hid (l ≠ m) := fun e => hll (by rw [e])
    have hi : ¬ (l.length : Int) = (m.length : Int) := by omega
    go_enter Tryz.func168, Tryz.ntmps168
    go_wp2
    go_ret
    exact ⟨BoolOf.no HN.out, 0, rfl⟩

set_option maxRecDepth 100000 in
set_option maxHeartbeats 1000000 in
theorem sameSeries_any (w : World) (a1 a2 b1 b2 : Option Addr) (c1 c2 d1 d2 : Nat) (x y : Ser) (l1 : LabelsAt w w.heap.size (.slice a1 x.1.length c1) x.1) (l2 : LabelsAt w w.heap.size (.slice a2 y.1.length c2) y.1) (s1 : SamplesAt w w.heap.size (.slice b1 x.2.length d1) x.2) (s2 : SamplesAt w w.heap.size (.slice b2 y.2.length d2) y.2)
    (hx : x.1.length ≤ 10000000000000 ∧ x.2.length ≤ 10000000000000) (hy : y.1.length ≤ 10000000000000 ∧ y.2.length ≤ 10000000000000) :
    Calls Tryz.prog 146 #[.agg #[.slice a1 x.1.length c1, .slice b1 x.2.length d1], .agg #[.slice a2 y.1.length c2, .slice b2 y.2.length d2]] w fun e w' => BoolOf e (x = y) ∧ Below w.heap.size w w' := by
  have hb : Below w.heap.size w ((w.alloc (.cells #[.slice a1 x.1.length c1, .slice b1 x.2.length d1] 38)).alloc (.cells #[.slice a2 y.1.length c2, .slice b2 y.2.length d2] 38)) := ((Below.refl _ _).alloc (Nat.le_refl _) _).alloc (by simp) _
  have HB := hide hb
  have C1 := hide (eqLab_any _ w.heap.size _ _ x.1 y.1 (l1.below hb (Nat.le_refl _)) (l2.below hb (Nat.le_refl _)) hy.1)
  have C2 : Hid (∀ W, Below w.heap.size w W → Calls Tryz.prog 168 #[.slice b1 x.2.length d1, .slice b2 y.2.length d2] W fun e w' => BoolOf e (x.2 = y.2) ∧ ∃ q, w' = W.drewN q) := fun W hW => eqSam_any W w.heap.size _ _ x.2 y.2 (s1.below hW (Nat.le_refl _)) (s2.below hW (Nat.le_refl _)) hy.2
  clear l1 l2 s1 s2 hb
  obtain ⟨xl, xs⟩ := x
  obtain ⟨yl, ys⟩ := y
  simp only at C1 C2 hx hy HB ⊢
  go_enter Tryz.func146, Tryz.ntmps146
  go_wp2_with fail
  refine C1.out.mono ?_
  rintro e w1 ⟨⟨r, rfl, hr⟩, q, rfl⟩
  have HR := hide hr
  clear hr C1
  cases r with
  | false =>
    have HN : Hid ((xl, xs) ≠ (yl, ys)) := fun e => by have := HR.out.2 (Prod.mk.inj e).1; cases this
    go_wp2
    go_ret
    exact ⟨BoolOf.no HN.out, below_drewN HB.out _⟩
  | true =>
    have he := HR.out.1 rfl
    have C3 := hide (C2.out _ (below_drewN HB.out q))
    have HE := hide he
    clear C2 he
    go_wp2_with fail
    refine C3.out.mono ?_
    rintro e w2 ⟨⟨r2, rfl, hr2⟩, q2, rfl⟩
    have HR2 := hide hr2
    clear hr2 C3
    have HF : Hid (r2 = true ↔ (xl, xs) = (yl, ys)) := ⟨fun h => by rw [HE.out, HR2.out.1 h], fun h => HR2.out.2 (Prod.mk.inj h).2⟩
    go_wp2
    go_ret
    exact ⟨⟨r2, by cases r2 <;> rfl, HF.out⟩, by first | exact below_drewN (below_drewN HB.out _) _ | exact below_drewN HB.out _⟩

set_option maxRecDepth 100000 in
set_option maxHeartbeats 1000000 in
theorem bSame_any (w : World) (v1 v2 : Value) (xs ys : List Ser) (h1 : BatchAt w w.heap.size v1 xs) (h2 : BatchAt w w.heap.size v2 ys) (hx : Small xs) (hy : Small ys) :
    Calls Tryz.prog 122 #[v1, v2] w fun e w' => BoolOf e (xs = ys) ∧ Below w.heap.size w w' := by
  obtain ⟨a1, c1, rfl, _⟩ := id h1
  obtain ⟨a2, c2, rfl, _⟩ := id h2
  have H1 := hide h1
  have H2 := hide h2
  have HX := hide hx
  have HY := hide hy
  have hxl := hx.series
  have hyl := hy.series
  clear h1 h2 hx hy
  have CE : Hid (Calls Tryz.prog 145 #[.slice a1 xs.length c1, .slice a2 ys.length c2, .func (.func 146) #[] #[]] w fun e w' => BoolOf e (xs = ys) ∧ Below w.heap.size w w') := by
    show Calls _ _ _ _ _
    by_cases hll : xs.length = ys.length
    · rw [hll] at H1 ⊢
      have HLL := hide hll
      clear hxl hll
      go_enter Tryz.func145, Tryz.ntmps145
      go_wp2
      go_loopw [7, 8, 9, 17] (fun _ _ _ i wr => ∃ j : Nat, j ≤ ys.length ∧ i = .int .i64 j ∧ Hid (Below w.heap.size w wr) ∧ Hid (xs.take j = ys.take j)) (fun _ _ _ i _ => ys.length - (intOf i).toNat)
      case atStart => exact ⟨0, Nat.zero_le _, rfl, Below.refl _ _, rfl⟩
      case round =>
        obtain ⟨j, hj, rfl, HB, HTk⟩ := hrel
        have hws := HB.out.size
        by_cases hjl : j < ys.length
        · obtain ⟨x, hx⟩ : ∃ x, xs[j]? = some x := ⟨_, List.getElem?_eq_getElem (by have := HLL.out; omega)⟩
          obtain ⟨y, hy⟩ : ∃ y, ys[j]? = some y := ⟨_, List.getElem?_eq_getElem hjl⟩
          obtain ⟨b1, o1, la1, lc1, sa1, sc1, rfl, hb1, p1, p2, L1, S1⟩ := H1.out.get hx
          obtain ⟨b2, o2, la2, lc2, sa2, sc2, rfl, hb2, q1, q2, L2, S2⟩ := H2.out.get hy
          have m1 := (HB.out.cell (p := ⟨b1, o1 + j * 2, none⟩) hb1).trans p1
          have m2 := (HB.out.cell (p := ⟨b1, o1 + j * 2 + 1, none⟩) hb1).trans p2
          have n1 := (HB.out.cell (p := ⟨b2, o2 + j * 2, none⟩) hb2).trans q1
          have n2 := (HB.out.cell (p := ⟨b2, o2 + j * 2 + 1, none⟩) hb2).trans q2
          have hxs := HX.out.labels _ (List.mem_of_getElem? hx)
          have hxt := HX.out.samples _ (List.mem_of_getElem? hx)
          have hys := HY.out.labels _ (List.mem_of_getElem? hy)
          have hyt := HY.out.samples _ (List.mem_of_getElem? hy)
          have HT2 := hide (take_eq_more hx hy)
          have C : Hid (∀ W, Below w.heap.size w W → Calls Tryz.prog 146 #[.agg #[.slice la1 x.1.length lc1, .slice sa1 x.2.length sc1], .agg #[.slice la2 y.1.length lc2, .slice sa2 y.2.length sc2]] W fun e w' => BoolOf e (x = y) ∧ Below W.heap.size W w') := fun W hW => by
            have hs := hW.size
            exact sameSeries_any W la1 la2 sa1 sa2 lc1 lc2 sc1 sc2 x y ((L1.below hW (Nat.le_refl _)).mono hs) ((L2.below hW (Nat.le_refl _)).mono hs) ((S1.below hW (Nat.le_refl _)).mono hs) ((S2.below hW (Nat.le_refl _)).mono hs) ⟨hxs, hxt⟩ ⟨hys, hyt⟩
          have hw1 : b1 < wr.heap.size := by omega
          have hw2 : b2 < wr.heap.size := by omega
          clear hx hy p1 p2 q1 q2 L1 L2 S1 S2
          have HB2 : Hid (Below w.heap.size w ((wr.alloc (.cells #[.slice la1 x.1.length lc1, .slice sa1 x.2.length sc1] 38)).alloc (.cells #[.slice la2 y.1.length lc2, .slice sa2 y.2.length sc2] 38))) := (HB.out.alloc hws _).alloc (by simp; omega) _
          have C2 := hide (C.out _ HB2.out)
          have hsz : wr.heap.size ≤ ((wr.alloc (.cells #[.slice la1 x.1.length lc1, .slice sa1 x.2.length sc1] 38)).alloc (.cells #[.slice la2 y.1.length lc2, .slice sa2 y.2.length sc2] 38)).heap.size := by simp; omega
          clear C
          go_wp2_with fail
          refine C2.out.mono ?_
          rintro e w2 ⟨⟨r, rfl, hr⟩, hb2'⟩
          have HR := hide hr
          have HB3 := hide (HB2.out.trans (hb2'.mono (by omega)))
          clear hr hb2' C2 HB2
          cases r with
          | true =>
            have HT3 : Hid (xs.take (j + 1) = ys.take (j + 1)) := HT2.out.2 ⟨HTk.out, HR.out.1 rfl⟩
            go_wp2
            go_roundw
            case rel => exact ⟨j + 1, by omega, by go_num, HB3.out, HT3.out⟩
            case measure => simp [intOf]; omega
          | false =>
            have HN : Hid (xs ≠ ys) := fun e => by
              have := HR.out.2 (HT2.out.1 (by rw [e])).2
              cases this
            go_wp2
            go_ret
            exact ⟨BoolOf.no HN.out, HB3.out⟩
        · have HLe : Hid (xs = ys) := (take_all HLL.out (by have := HLL.out; omega : xs.length ≤ j)).1 HTk.out
          go_wp2
          go_ret
          exact ⟨BoolOf.yes HLe.out, HB.out⟩
    · have HN : Hid (xs ≠ ys) := fun e => hll (by rw [e])
      have hi : ¬ (xs.length : Int) = (ys.length : Int) := by omega
      go_enter Tryz.func145, Tryz.ntmps145
      go_wp2
      go_ret
      exact ⟨BoolOf.no HN.out, Below.refl _ _⟩
  clear H1 H2
  go_enter Tryz.func122, Tryz.ntmps122
  go_wp2_with fail
  refine CE.out.mono ?_
  rintro e w1 ⟨⟨r, rfl, hr⟩, hb⟩
  have HR := hide hr
  have HB := hide hb
  clear hr hb CE
  go_wp2
  go_ret
  exact ⟨⟨r, rfl, HR.out⟩, HB.out⟩
end Go.Proofs.YtamcclcbmenjdaaGreatDoor

/- The order of texts. -/
namespace Go.Proofs.YtamcclcbmenjdaaGreatDoor
open Go.RowKit Go.Lib

theorem less_eq : ∀ (x y : List UInt8), Op.bytesLess x y = decide (x < y)
  | [], [] => by simp [Op.bytesLess]
  | _ :: _, [] => by simp [Op.bytesLess]
  | [], _ :: _ => by simp [Op.bytesLess]
  | a :: x, b :: y => by
    rw [Op.bytesLess, less_eq x y]
    simp only [List.cons_lt_cons_iff]
    by_cases h1 : a < b <;> by_cases h2 : a = b <;> by_cases h3 : x < y <;> simp [h1, h2, h3]
theorem lt_of_le_ne {x y : List UInt8} (h : x ≤ y) (hne : x ≠ y) : x < y := by
  by_cases hlt : x < y
  · exact hlt
  · exact absurd (List.le_antisymm h (List.not_lt.1 hlt)) hne
def TLt (a b : ByteArray) : Prop := a.data.toList < b.data.toList
theorem tless (x s : ByteArray) : Op.bytesLess x.toList s.toList = true ↔ TLt x s := by
  rw [ByteArray.toList_eq, ByteArray.toList_eq, less_eq]; simp [TLt]
theorem tirr (x : ByteArray) : ¬ TLt x x := fun h => List.lt_irrefl _ h
theorem ttrans {x y z : ByteArray} (h : TLt x y) (g : TLt y z) : TLt x z := List.lt_trans h g
theorem ttotal {x y : ByteArray} (h : ¬ TLt x y) (hn : x ≠ y) : TLt y x := by
  refine lt_of_le_ne (List.not_lt.1 h) ?_
  intro e
  exact hn (ByteArray.ext (Array.ext' e.symm))
end Go.Proofs.YtamcclcbmenjdaaGreatDoor

/- The reference: less, Order, Within. -/
namespace Go.Proofs.YtamcclcbmenjdaaGreatDoor
open Go.RowKit Go.Lib

theorem bl_cmp : ∀ (x y : List UInt8), (Op.bytesLess x y = true ↔ Lib.compareBytes x y = -1) ∧ (x = y ↔ Lib.compareBytes x y = 0) ∧ (Lib.compareBytes x y = -1 ∨ Lib.compareBytes x y = 0 ∨ Lib.compareBytes x y = 1) ∧ Lib.compareBytes y x = - Lib.compareBytes x y
  | [], [] => by simp [Op.bytesLess, Lib.compareBytes]
  | [], _ :: _ => by simp [Op.bytesLess, Lib.compareBytes]
  | _ :: _, [] => by simp [Op.bytesLess, Lib.compareBytes]
  | a :: r, b :: q => by
    have ih := bl_cmp r q
    by_cases hab : a = b
    · subst hab
      simpa [Op.bytesLess, Lib.compareBytes] using ih
    · by_cases hlt : a < b
      · have hlt2 : ¬ b < a := fun h => absurd (UInt8.lt_trans hlt h) (UInt8.lt_irrefl _)
        simp [Op.bytesLess, Lib.compareBytes, hab, hlt, hlt2]
      · have hlt2 : b < a := by rcases UInt8.lt_or_lt_of_ne hab with h | h; exact absurd h hlt; exact h
        simp [Op.bytesLess, Lib.compareBytes, hab, hlt, hlt2]

/-- Is a label ahead of another? -/
def lessLab (x y : Lab) : Bool := Op.bytesLess x.1.toList y.1.toList || (x.1.toList == y.1.toList && Op.bytesLess x.2.toList y.2.toList)

theorem toList_data (a : ByteArray) : a.toList = a.data.toList := ByteArray.toList_eq a
theorem lessLab_cmp (x y : Lab) : (lessLab x y = true ↔ cmpLab x y = -1) ∧ (lessLab y x = true ↔ cmpLab x y = 1) ∧ (cmpLab x y = -1 ∨ cmpLab x y = 0 ∨ cmpLab x y = 1) := by
  have h1 := bl_cmp x.1.data.toList y.1.data.toList
  have h2 := bl_cmp x.2.data.toList y.2.data.toList
  have h3 := bl_cmp y.1.data.toList x.1.data.toList
  have h4 := bl_cmp y.2.data.toList x.2.data.toList
  unfold lessLab cmpLab cmpB
  simp only [toList_data, Bool.or_eq_true, Bool.and_eq_true, beq_iff_eq, h1.1, h2.1, h3.1, h4.1]
  rw [h1.2.1, h3.2.1, h1.2.2.2, h2.2.2.2]
  have a1 := h1.2.2.1
  have a2 := h2.2.2.1
  generalize Lib.compareBytes x.1.data.toList y.1.data.toList = p at *
  generalize Lib.compareBytes x.2.data.toList y.2.data.toList = q at *
  clear h1 h2 h3 h4
  split <;> omega

set_option maxRecDepth 100000 in
set_option maxHeartbeats 400000 in
theorem less_any (x y : Lab) (w : World) :
    Calls Tryz.prog 104 #[.agg #[.string x.1, .string x.2], .agg #[.string y.1, .string y.2]] w fun e w' => e = .returned (.bool (lessLab x y)) ∧ Below w.heap.size w w' := by
  obtain ⟨a, b⟩ := x
  obtain ⟨c, d⟩ := y
  have HL : Hid (lessLab (a, b) (c, d) = (Op.bytesLess a.toList c.toList || (a.toList == c.toList && Op.bytesLess b.toList d.toList))) := rfl
  cases h1 : Op.bytesLess a.toList c.toList with
  | true =>
    go_enter Tryz.func104, Tryz.ntmps104
    go_wp2
    go_ret
    exact ⟨by rw [HL.out, h1]; rfl, (((Below.refl _ _).alloc (Nat.le_refl _) _).alloc (by simp) _)⟩
  | false =>
    cases h2 : a.toList == c.toList with
    | true =>
      go_enter Tryz.func104, Tryz.ntmps104
      go_wp2
      go_ret
      exact ⟨by rw [HL.out, h1, h2]; rfl, (((Below.refl _ _).alloc (Nat.le_refl _) _).alloc (by simp) _)⟩
    | false =>
      go_enter Tryz.func104, Tryz.ntmps104
      go_wp2
      go_ret
      exact ⟨by rw [HL.out, h1, h2]; rfl, (((Below.refl _ _).alloc (Nat.le_refl _) _).alloc (by simp) _)⟩

set_option maxRecDepth 100000 in
set_option maxHeartbeats 400000 in
theorem refOrder_any (B : Nat) (u v : Value) (l m : List Lab) (w : World) (hl : LabelsAt w B u l) (hm : LabelsAt w B v m) (hB : B ≤ w.heap.size) (hll : l.length ≤ 10000000000000) :
    Calls Tryz.prog 74 #[u, v] w fun e w' => e = .returned (.int .i64 (cmpLabs l m)) ∧ Below w.heap.size w w' := by
  obtain ⟨la, lc, rfl, _⟩ := id hl
  obtain ⟨ma, mc, rfl, _⟩ := id hm
  have HL := hide hl
  have HM := hide hm
  clear hl hm
  go_enter Tryz.func74, Tryz.ntmps74
  go_wp2
  go_loopw [5, 6, 7] (fun i _ _ wr => ∃ k : Nat, k ≤ l.length ∧ k ≤ m.length ∧ i = .int .i64 k ∧ Below w.heap.size w wr ∧ Hid (cmpLabs l m = cmpLabs (l.drop k) (m.drop k))) (fun i _ _ _ => l.length - (intOf i).toNat)
  case atStart => exact ⟨0, Nat.zero_le _, Nat.zero_le _, rfl, Below.refl _ _, rfl⟩
  case round =>
    obtain ⟨k, hk, hkm, rfl, hbl, HE⟩ := hrel
    have hsz := hbl.size
    have HBl := hide hbl
    clear hbl
    by_cases hlt : k < l.length
    · by_cases hltm : k < m.length
      · obtain ⟨x, hx⟩ : ∃ x, l[k]? = some x := ⟨_, List.getElem?_eq_getElem hlt⟩
        obtain ⟨b, o, rfl, hb, c1, c2⟩ := (HL.out.below HBl.out hB).get hx
        have hbw : b < wr.heap.size := by omega
        obtain ⟨y, hy⟩ : ∃ y, m[k]? = some y := ⟨_, List.getElem?_eq_getElem hltm⟩
        obtain ⟨b', o', rfl, hb', d1, d2⟩ := (HM.out.below HBl.out hB).get hy
        have hbw' : b' < wr.heap.size := by omega
        have HD := hide (cmpLabs_drop hx hy)
        have HC := hide (lessLab_cmp x y)
        obtain ⟨x1, x2⟩ := x
        obtain ⟨y1, y2⟩ := y
        have C1 := hide (less_any (x1, x2) (y1, y2))
        have C2 := hide (less_any (y1, y2) (x1, x2))
        clear hx hy
        have hsz2 := hsz
        generalize hq : cmpLab (x1, x2) (y1, y2) = q at *
        generalize hp1 : lessLab (x1, x2) (y1, y2) = p1 at *
        generalize hp2 : lessLab (y1, y2) (x1, x2) = p2 at *
        clear hq hp1 hp2
        go_wp2
        as_aux_lemma =>
          go_region_held3 (fun w' => w'.cell? ⟨b, o + k * 2, none⟩ = some (.string x1) ∧ w'.cell? ⟨b, o + k * 2 + 1, none⟩ = some (.string x2) ∧ w'.cell? ⟨b', o' + k * 2, none⟩ = some (.string y1) ∧ w'.cell? ⟨b', o' + k * 2 + 1, none⟩ = some (.string y2)) (go_keep) (first | (go_at_call 104; refine (C1.out _).mono ?_; rintro e w2 ⟨rfl, hb2⟩; have e1 := (Below.cell hb2 (p := ⟨b, o + k * 2, none⟩) (by show b < wr.heap.size; omega)).trans c1; have e2 := (Below.cell hb2 (p := ⟨b, o + k * 2 + 1, none⟩) (by show b < wr.heap.size; omega)).trans c2; have e3 := (Below.cell hb2 (p := ⟨b', o' + k * 2, none⟩) (by show b' < wr.heap.size; omega)).trans d1; have e4 := (Below.cell hb2 (p := ⟨b', o' + k * 2 + 1, none⟩) (by show b' < wr.heap.size; omega)).trans d2))
          all_goals
            have HB2 := hide (HBl.out.drew.trans (hb2.mono (by show w.heap.size ≤ wr.heap.size; omega)))
            have hs2 : wr.heap.size ≤ w2.heap.size := hb2.size
            clear hb2 c1 c2 d1 d2 HBl
            go_wp2
            as_aux_lemma =>
              go_region_held3 (fun w' => w'.cell? ⟨b, o + k * 2, none⟩ = some (.string x1) ∧ w'.cell? ⟨b, o + k * 2 + 1, none⟩ = some (.string x2) ∧ w'.cell? ⟨b', o' + k * 2, none⟩ = some (.string y1) ∧ w'.cell? ⟨b', o' + k * 2 + 1, none⟩ = some (.string y2)) (go_keep) (first | (go_at_call 104; refine (C2.out _).mono ?_; rintro e w3 ⟨rfl, hb3⟩; have g1 := (Below.cell hb3 (p := ⟨b, o + k * 2, none⟩) (by show b < w2.heap.size; omega)).trans e1; have g2 := (Below.cell hb3 (p := ⟨b, o + k * 2 + 1, none⟩) (by show b < w2.heap.size; omega)).trans e2; have g3 := (Below.cell hb3 (p := ⟨b', o' + k * 2, none⟩) (by show b' < w2.heap.size; omega)).trans e3; have g4 := (Below.cell hb3 (p := ⟨b', o' + k * 2 + 1, none⟩) (by show b' < w2.heap.size; omega)).trans e4))
              all_goals
                have HB3 := hide (HB2.out.drew.trans (hb3.mono (by show w.heap.size ≤ w2.heap.size; omega)))
                clear hb3 e1 e2 e3 e4 g1 g2 g3 g4 HB2
                cases p1 with
                | true =>
                  have hq : q = -1 := HC.out.1.1 rfl
                  have HQ : Hid (cmpLabs l m = -1) := by show _ = _; rw [HE.out, HD.out, hq]; rfl
                  clear hq HC HD HE
                  go_wp2
                  go_ret
                  exact ⟨ret_int HQ.out.symm, HB3.out⟩
                | false =>
                  cases p2 with
                  | true =>
                    have hq : q = 1 := HC.out.2.1.1 rfl
                    have HQ : Hid (cmpLabs l m = 1) := by show _ = _; rw [HE.out, HD.out, hq]; rfl
                    clear hq HC HD HE
                    go_wp2
                    go_ret
                    exact ⟨ret_int HQ.out.symm, HB3.out⟩
                  | false =>
                    have hq : q = 0 := by
                      rcases HC.out.2.2 with h | h | h
                      · cases HC.out.1.2 h
                      · exact h
                      · cases HC.out.2.1.2 h
                    have HQ : Hid (cmpLabs l m = cmpLabs (l.drop (k + 1)) (m.drop (k + 1))) := by show _ = _; rw [HE.out, HD.out, hq]; rfl
                    clear hq HC HD HE
                    go_wp2
                    go_roundw
                    case rel => exact ⟨k + 1, by omega, by omega, by go_num, HB3.out, HQ.out⟩
                    case measure => simp [intOf]; omega
      · obtain ⟨x, hx⟩ : ∃ x, l[k]? = some x := ⟨_, List.getElem?_eq_getElem hlt⟩
        have hend : cmpLabs l m = 1 := HE.out.trans (cmpLabs_end1 (by omega) hx)
        have HEnd := hide hend
        clear hx hend HE
        have h1 : ¬ l.length < m.length := by omega
        have h2 : m.length < l.length := by omega
        go_wp2
        go_ret
        exact ⟨ret_int HEnd.out.symm, HBl.out⟩
    · have hend : cmpLabs l m = if l.length < m.length then -1 else 0 := HE.out.trans (cmpLabs_end2 (by omega) (by omega))
      have HEnd := hide hend
      clear hend
      by_cases hlm2 : l.length < m.length
      · rw [if_pos hlm2] at HEnd
        go_wp2
        go_ret
        exact ⟨ret_int HEnd.out.symm, HBl.out⟩
      · rw [if_neg hlm2] at HEnd
        have h2 : ¬ m.length < l.length := by omega
        go_wp2
        go_ret
        exact ⟨ret_int HEnd.out.symm, HBl.out⟩

set_option maxRecDepth 100000 in
set_option maxHeartbeats 400000 in
theorem refWithin_any (B : Nat) (v : Value) (bs : List Ser) (w : World) (hS : BatchAt w B v bs) (hB : B ≤ w.heap.size) (hll : bs.length ≤ 10000000000000) :
    Calls Tryz.prog 50 #[v] w fun e w' => BoolOf e (LimitsOk bs) ∧ Below w.heap.size w w' := by
  obtain ⟨a, c, rfl, _⟩ := id hS
  have HS := hide hS
  clear hS
  by_cases h8 : 8 < bs.length
  · go_enter Tryz.func50, Tryz.ntmps50
    go_wp2
    go_ret
    exact ⟨BoolOf.no (fun h => by have := h.2; omega), Below.refl _ _⟩
  · go_enter Tryz.func50, Tryz.ntmps50
    go_wp2
    go_loopw [3] (fun i wr => ∃ k : Nat, k ≤ bs.length ∧ i = .int .i64 k ∧ Below w.heap.size w wr ∧ Hid (LimTo bs k)) (fun i _ => bs.length - (intOf i).toNat)
    case atStart => exact ⟨0, Nat.zero_le _, rfl, Below.refl _ _, fun i x h => by omega⟩
    case round =>
      obtain ⟨k, hk, rfl, hbl, HR⟩ := hrel
      have hsz := hbl.size
      have HBl := hide hbl
      clear hbl
      by_cases hlt : k < bs.length
      · obtain ⟨⟨y1, y2⟩, hy⟩ : ∃ y, bs[k]? = some y := ⟨_, List.getElem?_eq_getElem hlt⟩
        obtain ⟨b, o, la, lc, sa, sc, rfl, hb, c1, c2, _, _⟩ := (HS.out.below HBl.out hB).get hy
        have hbw : b < wr.heap.size := by omega
        have HY := hide hy
        clear hy
        simp only at c1 c2
        by_cases h1 : 4 < y1.length
        · have hno : ¬ LimitsOk bs := fun h => by have h2 : y1.length ≤ 4 := (h.1 k _ hlt HY.out).1; omega
          have HNo := hide hno
          clear hno HR HY
          go_wp2
          go_ret
          exact ⟨BoolOf.no HNo.out, HBl.out⟩
        · by_cases h2 : 40 < y2.length
          · have hno : ¬ LimitsOk bs := fun h => by have h2 : y2.length ≤ 40 := (h.1 k _ hlt HY.out).2; omega
            have HNo := hide hno
            clear hno HR HY
            go_wp2
            go_ret
            exact ⟨BoolOf.no HNo.out, HBl.out⟩
          · go_wp2
            go_roundw
            case rel => exact ⟨k + 1, by omega, by go_num, HBl.out, HR.out.succ HY.out (by show y1.length ≤ 4; omega) (by show y2.length ≤ 40; omega)⟩
            case measure => simp [intOf]; omega
      · have hke : k = bs.length := by omega
        have HY : Hid (LimTo bs bs.length) := by show LimTo bs bs.length; rw [← hke]; exact HR.out
        clear hke
        go_wp2
        go_ret
        exact ⟨BoolOf.yes ⟨HY.out, by omega⟩, HBl.out⟩
end Go.Proofs.YtamcclcbmenjdaaGreatDoor

/- Plain functions on lists and numbers, and what is true of them: the sum. No program here. -/
namespace Go.Proofs.YtamcclcbmenjdaaGreatDoor.Pl

/-- One bit of CRC-32C, the reversed kind. -/
def crcBit (n : Nat) : Nat := if n % 2 = 1 then (n / 2) ^^^ 2197175160 else n / 2
/-- k bits. -/
def crcIt : Nat → Nat → Nat
  | 0, n => n
  | k + 1, n => crcBit (crcIt k n)
def crcByte (n : Nat) (b : UInt8) : Nat := crcIt 8 (n ^^^ b.toNat)
def crcAll (n : Nat) (l : List UInt8) : Nat := l.foldl crcByte n
def crc (l : List UInt8) : Nat := crcAll 4294967295 l ^^^ 4294967295

theorem crcBit_lt (n : Nat) (h : n < 2 ^ 32) : crcBit n < 2 ^ 32 := by
  unfold crcBit
  split
  · exact Nat.xor_lt_two_pow (by omega) (by decide)
  · omega
theorem crcIt_lt (k n : Nat) (h : n < 2 ^ 32) : crcIt k n < 2 ^ 32 := by
  induction k with
  | zero => exact h
  | succ k ih => exact crcBit_lt _ ih
theorem crcByte_lt (n : Nat) (b : UInt8) (h : n < 2 ^ 32) : crcByte n b < 2 ^ 32 :=
  crcIt_lt _ _ (Nat.xor_lt_two_pow h (by have := b.toNat_lt; omega))
theorem crcAll_lt (l : List UInt8) (n : Nat) (h : n < 2 ^ 32) : crcAll n l < 2 ^ 32 := by
  induction l generalizing n with
  | nil => exact h
  | cons b l ih => exact ih _ (crcByte_lt n b h)
theorem crc_lt (l : List UInt8) : crc l < 2 ^ 32 := Nat.xor_lt_two_pow (crcAll_lt l _ (by decide)) (by decide)
theorem crcAll_snoc (n : Nat) (l : List UInt8) (b : UInt8) : crcAll n (l ++ [b]) = crcByte (crcAll n l) b := by
  simp [crcAll]

theorem bits_xor_u32_nat (a b : Nat) (ha : a < 2 ^ 32) (hb : b < 2 ^ 32) : bits .xor .u32 (a : Int) (b : Int) = ((a ^^^ b : Nat) : Int) := by
  have hx : a ^^^ b < 2 ^ 32 := Nat.xor_lt_two_pow ha hb
  have h1 : (BitVec.ofInt 32 (a : Int)).toNat = a := by
    rw [BitVec.ofInt_natCast, BitVec.toNat_ofNat]; exact Nat.mod_eq_of_lt (by omega)
  have h2 : (BitVec.ofInt 32 (b : Int)).toNat = b := by
    rw [BitVec.ofInt_natCast, BitVec.toNat_ofNat]; exact Nat.mod_eq_of_lt (by omega)
  show IntKind.u32.wrap ((BitVec.ofInt 32 (a : Int) ^^^ BitVec.ofInt 32 (b : Int)).toNat : Int) = _
  rw [BitVec.toNat_xor, h1, h2, IntKind.wrap_u32]
  omega
theorem wraps_u32 (n : Int) (h₀ : 0 ≤ n) (h₁ : n < 2 ^ 32) : IntKind.u32.wrap n = n := by rw [IntKind.wrap_u32]; omega
theorem bits_and1_u32 (a : Nat) (ha : a < 2 ^ 32) : bits .and .u32 (a : Int) 1 = ((a % 2 : Nat) : Int) := by
  have := bits_mask .u32 32 (by decide) wraps_u32 1 (by decide) a (by omega) (by omega)
  simpa using this

/-- A varint, with fuel. -/
def varintF : Nat → Nat → List UInt8
  | 0, n => [UInt8.ofNat n]
  | f + 1, n => if n < 128 then [UInt8.ofNat n] else UInt8.ofNat (n % 128 + 128) :: varintF f (n / 128)
def varint (n : Nat) : List UInt8 := varintF 9 n
theorem varintF_small (f n : Nat) (h : n < 128) : varintF f n = [UInt8.ofNat n] := by
  cases f <;> simp [varintF, h]
theorem varintF_big (f n : Nat) (h : ¬ n < 128) : varintF (f + 1) n = UInt8.ofNat (n % 128 + 128) :: varintF f (n / 128) := by
  simp [varintF, h]
theorem varintF_length (f n : Nat) : (varintF f n).length ≤ f + 1 := by
  induction f generalizing n with
  | zero => simp [varintF]
  | succ f ih => unfold varintF; split <;> simp <;> have := ih (n / 128) <;> omega
theorem varint_length (n : Nat) : (varint n).length ≤ 10 := varintF_length 9 n
theorem u8_ofNat (n : Nat) (h : n < 256) : ((UInt8.ofNat n).toNat : Int) = (n : Int) := by
  simp [UInt8.toNat_ofNat']; omega
theorem wraps_i64 (n : Int) (h₀ : 0 ≤ n) (h₁ : n < 2 ^ 63) : IntKind.i64.wrap n = n := by rw [IntKind.wrap_i64]; omega
theorem and127_i64 (m : Nat) (h : m < 2 ^ 63) : bits .and .i64 (m : Int) 127 = ((m % 128 : Nat) : Int) := by
  have := bits_mask .i64 63 (by decide) wraps_i64 7 (by decide) m (by omega) (by omega)
  simpa using this
theorem or128_i64 (m : Nat) (h : m < 128) : bits .or .i64 (m : Int) 128 = ((m + 128 : Nat) : Int) := by
  have h1 := (bits_nat .i64 63 (by decide) wraps_i64 m 128 (by omega) (by decide)).2
  have h2 : m ||| 128 = m + 128 := by
    have := Nat.two_pow_add_eq_or_of_lt (i := 7) (b := m) (by omega) 1
    rw [Nat.or_comm, Nat.add_comm]; simpa using this.symm
  rw [← h2, ← h1]; rfl

/-- A byte as a cell's value. -/
def B (b : UInt8) : Value := .int .u8 b.toNat
def Bs (l : List UInt8) : List Value := l.map B
theorem Bs_append (a b : List UInt8) : Bs (a ++ b) = Bs a ++ Bs b := by simp [Bs]
theorem Bs_length (a : List UInt8) : (Bs a).length = a.length := by simp [Bs]
end Go.Proofs.YtamcclcbmenjdaaGreatDoor.Pl

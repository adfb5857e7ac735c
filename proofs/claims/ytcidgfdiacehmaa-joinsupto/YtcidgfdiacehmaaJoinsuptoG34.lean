/- 'choirlaw.Joins', for any two lists of series of bulk at most 1048576: Join answers the document's join or error, either way round; what is handed in stays, what comes out is its owner's. The second form's statement: its only condition is the row's own bound on the arguments' bulk. -/
import Derived.Test.YtcidgfdiacehmaaJoinsuptoG33
import Derived.Test.YtcidgfdiacehmaaJoinsuptoG14
import Derived.Test.YtcidgfdiacehmaaJoinsuptoG31
/- The reference's Same (of lists that read alike) and Joined. -/
namespace Go.Proofs.Ytcidgfdiacehmaa
open Go.RowKit Go.Lib

set_option maxRecDepth 100000 in
set_option maxHeartbeats 1000000 in
theorem refSame_any (v1 v2 : Value) (bs : List Ser) (w : World) (h1 : BatchAt w w.heap.size v1 bs) (h2 : BatchAt w w.heap.size v2 bs) (hsm : Small bs) :
    Calls Try.prog 13 #[v1, v2] w fun e w' => e = .returned (.bool true) ∧ Below w.heap.size w w' := by
  obtain ⟨a1, c1, rfl, -⟩ := id h1
  obtain ⟨a2, c2, rfl, -⟩ := id h2
  have H1 := hide h1
  have H2 := hide h2
  have HSm := hide hsm
  have hll := hsm.series
  clear h1 h2 hsm
  go_enter Try.func13, Try.ntmps13
  go_wp2
  go_loopw [5, 6, 7] (fun i _ _ wr => ∃ m : Nat, m ≤ bs.length ∧ i = .int .i64 m ∧ Hid (Below w.heap.size w wr)) (fun i _ _ _ => bs.length - (intOf i).toNat)
  case atStart => exact ⟨0, Nat.zero_le _, rfl, Below.refl _ _⟩
  case round =>
    obtain ⟨m, hm, rfl, HW⟩ := hrel
    by_cases hlt : m < bs.length
    · obtain ⟨⟨ll, sl⟩, hx⟩ : ∃ x, bs[m]? = some x := ⟨_, List.getElem?_eq_getElem hlt⟩
      have hsw := HW.out.size
      obtain ⟨b1, o1, la1, lc1, sa1, sc1, rfl, hb1, p1, p2, L1, S1⟩ := H1.out.get hx
      obtain ⟨b2, o2, la2, lc2, sa2, sc2, rfl, hb2, q1, q2, L2, S2⟩ := H2.out.get hx
      have hl1 := HSm.out.labels _ (List.mem_of_getElem? hx)
      have hs1 := HSm.out.samples _ (List.mem_of_getElem? hx)
      simp only at p1 p2 q1 q2 L1 L2 S1 S2 hl1 hs1
      have m1 := (HW.out.cell (p := ⟨b1, o1 + m * 2, none⟩) hb1).trans p1
      have m2 := (HW.out.cell (p := ⟨b2, o2 + m * 2, none⟩) hb2).trans q1
      have C : Hid (∀ W2, Below wr.heap.size wr W2 → Calls Try.prog 29 #[.slice la1 ll.length lc1, .slice la2 ll.length lc2] W2 fun e w' => e = .returned (.int .i64 0) ∧ Below wr.heap.size wr w') := fun W2 h2 => by
        have h5 := HW.out.trans (h2.mono hsw)
        refine (refOrder_any w.heap.size _ _ ll ll W2 (L1.below h5 (Nat.le_refl _)) (L2.below h5 (Nat.le_refl _)) h5.size hl1).mono fun e w' h => ⟨?_, h2.trans (h.2.mono h2.size)⟩
        rw [h.1, cmpLabs_self]
      have HS1 := hide S1
      have HS2 := hide S2
      have hw1 : b1 < wr.heap.size := by omega
      have hw2 : b2 < wr.heap.size := by omega
      clear L1 L2 S1 S2 hx
      go_wp2
      as_aux_lemma =>
        go_region_held3 (fun w' => w'.cell? ⟨b1, o1 + m * 2, none⟩ = some (.slice la1 ll.length lc1) ∧ w'.cell? ⟨b2, o2 + m * 2, none⟩ = some (.slice la2 ll.length lc2)) (go_keep) (first | (go_at_call 29; refine (C.out _ (by first | exact (Below.refl _ _).drew | exact Below.refl _ _)).mono ?_; rintro e w6 ⟨rfl, hb6⟩; have x1 := (hb6.cell (p := ⟨b1, o1 + m * 2, none⟩) hw1).trans m1; have x2 := (hb6.cell (p := ⟨b2, o2 + m * 2, none⟩) hw2).trans m2) | fail)
        all_goals
          have HW6 : Hid (Below w.heap.size w w6) := HW.out.trans (hb6.mono hsw)
          have y2 := (HW6.out.cell (p := ⟨b1, o1 + m * 2 + 1, none⟩) hb1).trans p2
          have z2 := (HW6.out.cell (p := ⟨b2, o2 + m * 2 + 1, none⟩) hb2).trans q2
          have HT1 := hide (HS1.out.below HW6.out (Nat.le_refl _))
          have HT2 := hide (HS2.out.below HW6.out (Nat.le_refl _))
          clear hb6 x1 x2 C HW m1 m2 HS1 HS2
          go_wp2
          go_quiet (fail)
          go_wp2
          go_loopw [7] (fun i wr => ∃ j q : Nat, j ≤ sl.length ∧ i = .int .i64 j ∧ wr = w6.drewN q) (fun i _ => sl.length - (intOf i).toNat)
          case atStart => exact ⟨0, _, Nat.zero_le _, rfl, by first | rfl | exact drewN_two _ _ _⟩
          case round =>
            obtain ⟨j, q, hj, rfl, rfl⟩ := hrel
            by_cases hjl : j < sl.length
            · obtain ⟨⟨ty, by1⟩, hy⟩ : ∃ x, sl[j]? = some x := ⟨_, List.getElem?_eq_getElem hjl⟩
              obtain ⟨e1, f1, rfl, u1, u2⟩ := samGet HT1.out hy
              obtain ⟨e2, f2, rfl, v1, v2⟩ := samGet HT2.out hy
              simp only at u1 u2 v1 v2
              clear hy
              go_wp2
              go_quiet (fail)
              go_wp2
              go_roundw
              case rel => exact ⟨j + 1, _, by omega, by go_num, by first | rfl | exact drewN_two _ _ _⟩
              case measure => simp [intOf]; omega
            · have HW7 : Hid (Below w.heap.size w (w6.drewN q)) := HW6.out.trans ⟨rfl, rfl, rfl, Nat.le_refl _, fun _ _ => rfl⟩
              go_wp2
              go_roundw
              case rel => exact ⟨m + 1, by omega, by go_num, HW7.out⟩
              case measure => simp [intOf]; omega
    · go_wp2
      go_ret
      exact ⟨rfl, HW.out⟩

theorem JoinOf.unique {a b j k : List Ser} {n m : Nat} (h : JoinOf a b n j) (g : JoinOf a b m k) : n = m ∧ (n = 0 → j = k) := by
  rcases h with ⟨rfl, h⟩ | ⟨rfl, h1, h2, h⟩ | ⟨h1, h2, h3, h4, h5, h6⟩ <;> rcases g with ⟨rfl, g⟩ | ⟨rfl, g1, g2, g⟩ | ⟨g1, g2, g3, g4, g5, g6⟩
  · exact ⟨rfl, fun e => by cases e⟩
  · exact absurd ⟨g1, g2⟩ h
  · exact absurd ⟨g1, g2⟩ h
  · exact absurd ⟨h1, h2⟩ g
  · exact ⟨rfl, fun e => by cases e⟩
  · exact absurd ⟨g3, g4⟩ h
  · exact absurd ⟨h1, h2⟩ g
  · exact absurd ⟨h3, h4⟩ g
  · obtain rfl := h5.unique g5
    refine ⟨?_, fun _ => rfl⟩
    rcases h6 with ⟨rfl, h⟩ | ⟨rfl, h, h'⟩ | ⟨rfl, h, h'⟩ <;> rcases g6 with ⟨rfl, g⟩ | ⟨rfl, g, g'⟩ | ⟨rfl, g, g'⟩
    · rfl
    · exact absurd g h
    · exact absurd g h
    · exact absurd h g
    · rfl
    · exact absurd g' h'
    · exact absurd h g
    · exact absurd h' g'
    · rfl
theorem Sz.small {a : List Ser} {n : Nat} (h : Sz 100000000 a n) (hn : n ≤ 100000000) : Small a :=
  ⟨by have := h.1; omega, fun s hs => by have := (h.2 s hs).1; omega, fun s hs => by have := (h.2 s hs).2; omega⟩

set_option maxRecDepth 100000 in
set_option maxHeartbeats 1000000 in
theorem refJoined_any (W : World) (va vb : Value) (a b : List Ser) (ha : BatchAt W W.heap.size va a) (hb : BatchAt W W.heap.size vb b) (sa : Sz 100000000 a 0) (sb : Sz 100000000 b 0) (hsn : samN b ≤ 100000000) :
    Calls Try.prog 12 #[va, vb] W fun e w' => ∃ n j, JoinOf a b n j ∧ Below W.heap.size W w' ∧ ((n = 0 ∧ ∃ jv, e = .returned (.tuple #[jv, .int .i64 0]) ∧ BatchAt w' w'.heap.size jv j) ∨ (n ≠ 0 ∧ e = .returned (.tuple #[.slice none 0 0, .int .i64 n]))) := by
  have C1 := hide (refGood_any W.heap.size va a W ha (Nat.le_refl _) (sa.small (Nat.zero_le _)))
  have HA := hide ha
  have HB := hide hb
  have HSa := hide sa
  have HSb := hide sb
  obtain ⟨aa, ac, rfl, -⟩ := id ha
  obtain ⟨ba, bc, rfl, -⟩ := id hb
  clear ha hb sa sb
  go_enter Try.func12, Try.ntmps12
  go_wp2_with fail
  refine C1.out.mono ?_
  rintro e w1 ⟨⟨r1, rfl, hr1⟩, hb1⟩
  have HA1 := hide (onB HA.out hb1)
  have HBt1 := hide (onB HB.out hb1)
  have HW1 := hide hb1
  have HR1 := hide hr1
  have C2 := hide (refGood_any w1.heap.size _ b w1 HBt1.out (Nat.le_refl _) (HSb.out.small (Nat.zero_le _)))
  clear C1 hb1 hr1 HA HB
  go_wp2_with fail
  refine C2.out.mono ?_
  rintro e w2 ⟨⟨r2, rfl, hr2⟩, hb2⟩
  have HA2 := hide (onB HA1.out hb2)
  have HBt2 := hide (onB HBt1.out hb2)
  have HW2 := hide (HW1.out.trans (hb2.mono HW1.out.size))
  have HR2 := hide hr2
  clear C2 hb2 hr2 HA1 HBt1 HW1
  by_cases hgood : BatchOk a ∧ BatchOk b
  · obtain rfl : r1 = true := HR1.out.2 hgood.1
    obtain rfl : r2 = true := HR2.out.2 hgood.2
    have HG := hide hgood
    have C3 := hide (refJoin_any w2 _ _ a b HA2.out HBt2.out hgood.1 hgood.2 HSa.out HSb.out hsn)
    clear hgood HR1 HR2
    go_wp2_with fail
    refine C3.out.mono ?_
    rintro e w3 ⟨jv, j, rfl, hj, hz, hJ, hb3⟩
    have HA3 := hide (onB HA2.out hb3)
    have HBt3 := hide (onB HBt2.out hb3)
    have HJ3 := hide hJ
    have HW3 := hide (HW2.out.trans (hb3.mono HW2.out.size))
    have HIj := hide hj
    have HZ := hide hz
    obtain ⟨ja, jc, rfl, -⟩ := id hJ
    have C4 := hide (refWithin_any w3.heap.size _ a w3 HA3.out (Nat.le_refl _) (by have := HSa.out.1; omega))
    clear C3 hb3 hj hz hJ HA2 HBt2 HW2
    go_wp2_with fail
    refine C4.out.mono ?_
    rintro e w4 ⟨⟨r4, rfl, hr4⟩, hb4⟩
    have HBt4 := hide (onB HBt3.out hb4)
    have HJ4 := hide (onB HJ3.out hb4)
    have HW4 := hide (HW3.out.trans (hb4.mono HW3.out.size))
    have HR4 := hide hr4
    have C5 := hide (refWithin_any w4.heap.size _ b w4 HBt4.out (Nat.le_refl _) (by have := HSb.out.1; omega))
    clear C4 hb4 hr4 HA3 HBt3 HJ3 HW3
    go_wp2_with fail
    refine C5.out.mono ?_
    rintro e w5 ⟨⟨r5, rfl, hr5⟩, hb5⟩
    have HJ5 := hide (onB HJ4.out hb5)
    have HW5 := hide (HW4.out.trans (hb5.mono HW4.out.size))
    have HR5 := hide hr5
    have C6 := hide (refWithin_any w5.heap.size _ j w5 HJ5.out (Nat.le_refl _) (by have := HZ.out.1; omega))
    clear C5 hb5 hr5 HBt4 HJ4 HW4
    go_wp2_with fail
    refine C6.out.mono ?_
    rintro e w6 ⟨⟨r6, rfl, hr6⟩, hb6⟩
    have HJ6 := hide (onB HJ5.out hb6)
    have HW6 := hide (HW5.out.trans (hb6.mono HW5.out.size))
    have HR6 := hide hr6
    clear C6 hb6 hr6 HJ5 HW5
    have HTwo : Hid (¬ (LimitsOk a ∧ LimitsOk b ∧ LimitsOk j) → JoinOf a b 2 j) := fun h => by
      by_cases hab : LimitsOk a ∧ LimitsOk b
      · exact .inr (.inr ⟨HG.out.1, HG.out.2, hab.1, hab.2, HIj.out, .inr (.inl ⟨rfl, HIj.out.ok, fun h2 => h ⟨hab.1, hab.2, h2⟩⟩)⟩)
      · exact .inr (.inl ⟨rfl, HG.out.1, HG.out.2, hab⟩)
    cases r4 with
    | false =>
      have HF : Hid (JoinOf a b 2 j) := HTwo.out fun h => absurd (HR4.out.2 h.1) (by decide)
      go_wp2
      go_ret2
      exact ⟨2, j, HF.out, HW6.out, .inr ⟨by decide, rfl⟩⟩
    | true =>
      cases r5 with
      | false =>
        have HF : Hid (JoinOf a b 2 j) := HTwo.out fun h => absurd (HR5.out.2 h.2.1) (by decide)
        go_wp2
        go_ret2
        exact ⟨2, j, HF.out, HW6.out, .inr ⟨by decide, rfl⟩⟩
      | true =>
        cases r6 with
        | false =>
          have HF : Hid (JoinOf a b 2 j) := HTwo.out fun h => absurd (HR6.out.2 h.2.2) (by decide)
          go_wp2
          go_ret2
          exact ⟨2, j, HF.out, HW6.out, .inr ⟨by decide, rfl⟩⟩
        | true =>
          have HF : Hid (JoinOf a b 0 j) := .inr (.inr ⟨HG.out.1, HG.out.2, HR4.out.1 rfl, HR5.out.1 rfl, HIj.out, .inr (.inr ⟨rfl, HIj.out.ok, HR6.out.1 rfl⟩)⟩)
          go_wp2
          go_ret2
          exact ⟨0, j, HF.out, HW6.out, .inl ⟨rfl, _, rfl, HJ6.out⟩⟩
  · have HF : Hid (JoinOf a b 1 []) := .inl ⟨rfl, hgood⟩
    cases r1 with
    | false =>
      go_wp2
      go_ret2
      exact ⟨1, [], HF.out, HW2.out, .inr ⟨by decide, rfl⟩⟩
    | true =>
      obtain rfl : r2 = false := by
        cases r2 with
        | false => rfl
        | true => exact absurd ⟨HR1.out.1 rfl, HR2.out.1 rfl⟩ hgood
      go_wp2
      go_ret2
      exact ⟨1, [], HF.out, HW2.out, .inr ⟨by decide, rfl⟩⟩
end Go.Proofs.Ytcidgfdiacehmaa

/- choirkeep's joined. -/
namespace Go.Proofs.Ytcidgfdiacehmaa
open Go.RowKit Go.Lib

theorem two_ranged {w : World} {B : Nat} {va vb : Value} {a b j : List Ser} (ha : BatchAt w B va a) (hb : BatchAt w B vb b) (hj : IsJoin [a, b] j) : ∀ s ∈ j, Ranged s := fun s hs x hx => by
  obtain ⟨⟨bs, hbs, r, hr, _, hm⟩, _⟩ := (hj.holds s.1 x.1 x.2).1 ⟨s, hs, rfl, hx⟩
  rcases List.mem_cons.1 hbs with e | hbs
  · rw [e] at hr; exact ha.ranged r hr _ hm
  · rw [List.mem_singleton.1 hbs] at hr; exact hb.ranged r hr _ hm
set_option maxRecDepth 100000 in
set_option maxHeartbeats 1000000 in
theorem kjoined_any (W : World) (va vb : Value) (a b : List Ser) (ha : BatchAt W W.heap.size va a) (hb : BatchAt W W.heap.size vb b) (hsa : Small a) (hsb : Small b) (oa : BatchOk a) (ob : BatchOk b) (la : LimitsOk a) (lb : LimitsOk b) (hlim : ∀ j, IsJoin [a, b] j → LimitsOk j) :
    Calls Try.prog 7 #[va, vb] W fun e w' => ∃ jv j, IsJoin [a, b] j ∧ e = .returned (.tuple #[jv, .bool true]) ∧ BatchAt w' w'.heap.size jv j ∧ LimitsOk j ∧ Below W.heap.size W w' := by
  have C := hide (join_any W va vb a b ha hb hsa hsb)
  have HA := hide ha
  have HB := hide hb
  obtain ⟨aa, ac, rfl, -⟩ := id ha
  obtain ⟨ba, bc, rfl, -⟩ := id hb
  clear ha hb
  go_enter Try.func7, Try.ntmps7
  go_wp2_with fail
  refine C.out.mono ?_
  rintro e w2 ⟨n, j, hj, hb2, hr⟩
  obtain ⟨hJ, hC⟩ : IsJoin [a, b] j ∧ Code j n := by
    rcases hj with ⟨_, h⟩ | ⟨_, _, _, h⟩ | ⟨_, _, _, _, h⟩
    · exact absurd ⟨oa, ob⟩ h
    · exact absurd ⟨la, lb⟩ h
    · exact h
  have hL := hlim j hJ
  obtain rfl : n = 0 := by
    rcases hC with ⟨_, h⟩ | ⟨_, _, h⟩ | ⟨h, _⟩
    · exact absurd hJ.ok h
    · exact absurd hL h
    · exact h
  rcases hr with ⟨_, jv, rfl, hF⟩ | ⟨h, _⟩
  · have hA : BatchAt w2 w2.heap.size jv j := hF.batchAt (two_ranged HA.out HB.out hJ)
    have HR : Hid (IsJoin [a, b] j ∧ BatchAt w2 w2.heap.size jv j ∧ LimitsOk j ∧ Below W.heap.size W w2) := ⟨hJ, hA, hL, hb2⟩
    clear hj hb2 hJ hC hL hF hA C HA HB hlim
    go_wp2
    go_ret2
    exact ⟨_, j, HR.out.1, rfl, HR.out.2⟩
  · exact absurd rfl h
end Go.Proofs.Ytcidgfdiacehmaa

/- 'choirlaw.Merges', for any list of texts of bulk at most 1048576: Merge answers the document's frame or error; what is handed in stays. The second form's statement and its card: its only condition is the row's own bound on the argument's bulk. -/
import Derived.Test.YtamcclcbmenjdaaGreatDoorMergesuptoG41
/- The reference's add: the walk. -/
namespace Go.Proofs.YtamcclcbmenjdaaGreatDoor
open Go.RowKit Go.Lib

set_option maxRecDepth 100000 in
set_option maxHeartbeats 2000000 in
theorem refAdd_any (W : World) (v lv : Value) (bs : List Ser) (l : List Lab) (t : Int) (u : Nat) (hv : BatchAt W W.heap.size v bs) (hl : LabelsAt W W.heap.size lv l) (hr : -9223372036854775808 ≤ t ∧ t ≤ 9223372036854775807 ∧ u ≤ 18446744073709551615) (hso : ∀ x ∈ bs, x.2.Pairwise SLt) (hn : bs.length ≤ 1000000000) (hsn : ∀ x ∈ bs, x.1.length ≤ 1000000000 ∧ x.2.length ≤ 1000000000) :
    Calls Tryz.prog 89 #[v, lv, .agg #[.int .i64 t, .int .u64 u]] W fun e w' => ∃ v', e = .returned v' ∧ BatchAt w' w'.heap.size v' (addB l (t, u) bs) ∧ Below W.heap.size W w' := by
  obtain ⟨i0, hi, hz0, hz1, hz2⟩ := info_parts Tryz.infoSer
  obtain ⟨i1, hi1, hy0, hy1, hy2⟩ := info_parts Tryz.infoSam
  obtain ⟨va, vc, rfl, -⟩ := id hv
  obtain ⟨la, lc, rfl, -⟩ := id hl
  have HV := hide hv
  have HL := hide hl
  have HSo := hide hso
  have HSn := hide hsn
  have HRg := hide hr
  have H0 : Hid (AddSt W (W.alloc (.cells #[.int .i64 t, .int .u64 u] 34)) t u (.slice none 0 0) [] [] false) :=
    ⟨(Below.refl _ _).alloc (Nat.le_refl _) _, heap_alloc_new W _, rfl, World.ownsRow_nil _ _ _ _, fun i p x h _ => by simp at h⟩
  clear hv hl hso hsn hr
  go_enter Tryz.func89, Tryz.ntmps89
  go_wp2
  go_loopw [7, 8, 9, 10, 11, 12, 13, 14] (fun ov inn i _ _ _ _ _ wr => ∃ (k : Nat) (done : List Ser) (vals : List (Value × Value)) (ib : Bool), k ≤ bs.length ∧ i = .int .i64 k ∧ inn = .bool ib ∧ done.length ≤ k + 1 ∧ Hid (ib = false → done.length ≤ k) ∧ Hid (AddSt W wr t u ov done vals ib) ∧ Hid (done ++ addBo l (t, u) ib (bs.drop k) = addB l (t, u) bs)) (fun _ _ i _ _ _ _ _ _ => bs.length - (intOf i).toNat)
  case atStart => exact ⟨0, [], [], false, Nat.zero_le _, rfl, rfl, by simp, (fun _ => by simp), H0.out, rfl⟩
  case round =>
    clear H0
    obtain ⟨k, done, vals, ib, hk, rfl, rfl, hdl, HDf, HA, HE⟩ := hrel
    have hws := HA.out.below.size
    by_cases hlt : k < bs.length
    · obtain ⟨⟨ll, sl⟩, hx⟩ : ∃ x, bs[k]? = some x := ⟨_, List.getElem?_eq_getElem hlt⟩
      obtain ⟨b1, o1, la1, lc1, sa1, sc1, rfl, hb1, p1, p2, L1, S1⟩ := HV.out.get hx
      have hsn := HSn.out _ (List.mem_of_getElem? hx)
      have hso := HSo.out _ (List.mem_of_getElem? hx)
      simp only at p1 p2 L1 S1 hsn hso
      have m1 := (HA.out.below.cell (p := ⟨b1, o1 + k * 2, none⟩) hb1).trans p1
      have m2 := (HA.out.below.cell (p := ⟨b1, o1 + k * 2 + 1, none⟩) hb1).trans p2
      have C := hide (refOrder_any W.heap.size (.slice la1 ll.length lc1) (.slice la l.length lc) ll l wr (L1.below HA.out.below (Nat.le_refl _)) (HL.out.below HA.out.below (Nat.le_refl _)) hws (by omega))
      have hdr := drop_more hx
      have hE2 := HE.out
      rw [hdr] at hE2
      have HE2 := hide hE2
      have HSo1 := hide hso
      have HL1 := hide L1
      have HS1 := hide S1
      have h3 := cmpLabs_three ll l
      generalize hc : cmpLabs ll l = q at *
      have HC := hide hc
      clear hx L1 S1 hso hdr HE hc hE2
      go_wp2_with fail
      refine C.out.mono ?_
      rintro e w3 ⟨rfl, hb3⟩
      have hs3 := hb3.size
      have HA3 := hide (HA.out.kept hb3)
      have c1 := (hb3.cell (p := ⟨b1, o1 + k * 2, none⟩) (by show b1 < wr.heap.size; omega)).trans m1
      have c2 := (hb3.cell (p := ⟨b1, o1 + k * 2 + 1, none⟩) (by show b1 < wr.heap.size; omega)).trans m2
      clear hb3 C m1 m2 HA
      cases ib with
      | true =>
        have HE5 : Hid ((done ++ [(ll, sl)]) ++ addBo l (t, u) true (bs.drop (k + 1)) = addB l (t, u) bs) := by
          have := HE2.out
          exact hide (by simpa [addBo] using this)
        clear HE2
        rcases h3 with rfl | rfl | rfl
        all_goals
          go_wp2_with (first | (at_builtin; refine wpList_append_heir _ rfl (.tmp 33) (.tmp 38) 39 rfl (W.heap.size + 1) 38 i0 (.agg #[.slice none 0 0, .slice none 0 0]) 2 48 Tryz.underlying39 hi hz0 hz1 hz2 rfl (by decide) u7 done.length (serCells vals) rfl (own_alloc HA3.out.own _) ⟨w3.heap.size, 0, none⟩ 1 1 [.slice la1 ll.length lc1, .slice sa1 sl.length sc1] rfl rfl (cells_new w3 _ _) (one_two rfl rfl) (by unfold maxLen; omega) (by omega) (by simp; omega) ?_) | fail)
          intro v' w5 ho5 hg5 hh5
          have HB5 : Hid (Below W.heap.size W w5) := (HA3.out.below.alloc (by omega) _).grown hg5 (by simp; omega) (fun q e => by have := (World.ownsRow.lt HA3.out.own q e).1; omega)
          have HA5 : Hid (AddSt W w5 t u v' (done ++ [(ll, sl)]) (vals ++ [(.slice la1 ll.length lc1, .slice sa1 sl.length sc1)]) true) := HA3.out.grow id (fun q hq hne => (hg5.block q (by simp; omega) hne).trans (heap_alloc_old w3 _ hq)) HB5.out (by exact ho5) rfl (ent_one HL1.out (.inl HS1.out))
          clear ho5 hg5 hh5 HA3 HB5
          go_wp2
          go_roundw
          case rel => exact ⟨k + 1, done ++ [(ll, sl)], _, true, by omega, by go_num, rfl, by simp; omega, (fun h => by cases h), HA5.out, HE5.out⟩
          case measure => simp [intOf]; omega
      | false =>
        rcases h3 with rfl | rfl | rfl
        · have HE5 : Hid ((done ++ [(ll, sl)]) ++ addBo l (t, u) false (bs.drop (k + 1)) = addB l (t, u) bs) := by
            have h1 := HE2.out
            have h2 : cmpLabs ll l < 0 := by rw [HC.out]; decide
            exact hide (by simpa [addBo, addB, h2] using h1)
          clear HE2
          go_wp2_with (first | (at_builtin; refine wpList_append_heir _ rfl (.tmp 33) (.tmp 38) 39 rfl (W.heap.size + 1) 38 i0 (.agg #[.slice none 0 0, .slice none 0 0]) 2 48 Tryz.underlying39 hi hz0 hz1 hz2 rfl (by decide) u7 done.length (serCells vals) rfl (own_alloc HA3.out.own _) ⟨w3.heap.size, 0, none⟩ 1 1 [.slice la1 ll.length lc1, .slice sa1 sl.length sc1] rfl rfl (cells_new w3 _ _) (one_two rfl rfl) (by unfold maxLen; omega) (by omega) (by simp; omega) ?_) | fail)
          intro v' w5 ho5 hg5 hh5
          have HB5 : Hid (Below W.heap.size W w5) := (HA3.out.below.alloc (by omega) _).grown hg5 (by simp; omega) (fun q e => by have := (World.ownsRow.lt HA3.out.own q e).1; omega)
          have HA5 : Hid (AddSt W w5 t u v' (done ++ [(ll, sl)]) (vals ++ [(.slice la1 ll.length lc1, .slice sa1 sl.length sc1)]) false) := HA3.out.grow id (fun q hq hne => (hg5.block q (by simp; omega) hne).trans (heap_alloc_old w3 _ hq)) HB5.out (by exact ho5) rfl (ent_one HL1.out (.inl HS1.out))
          clear ho5 hg5 hh5 HA3 HB5
          go_wp2
          go_roundw
          case rel => exact ⟨k + 1, done ++ [(ll, sl)], _, false, by omega, by go_num, rfl, by simp; omega, (fun _ => by have := HDf.out (by trivial); simp; omega), HA5.out, HE5.out⟩
          case measure => simp [intOf]; omega
        · have hE0 : done ++ ((l, addS (t, u) sl) :: bs.drop (k + 1)) = addB l (t, u) bs := by
            have h1 := HE2.out
            simpa [addBo, addB, HC.out] using h1
          have HE5 : Hid ((done ++ [(l, addS (t, u) sl)]) ++ addBo l (t, u) true (bs.drop (k + 1)) = addB l (t, u) bs) := hide (by simpa [addBo] using hE0)
          clear HE2 hE0
          go_wp2
          go_loopw [11, 12, 13, 14] (fun mv put i _ wr => ∃ (q : Nat) (m : List (Int × Nat)) (pb : Bool), q ≤ sl.length ∧ i = .int .i64 q ∧ put = .bool pb ∧ m.length ≤ 2 * q ∧ Hid (wr.ownsRow (W.heap.size + 1) 34 2 mv m.length (samCells m)) ∧ Hid (Rng m) ∧ Hid (AddSt W wr t u u7 done vals false) ∧ Hid (m ++ addGo (t, u) pb (sl.drop q) = addS (t, u) sl) ∧ Hid (pb = true → ∀ y ∈ sl.drop q, t < y.1)) (fun _ _ i _ _ => sl.length - (intOf i).toNat)
          case atStart => exact ⟨0, [], false, Nat.zero_le _, rfl, rfl, by simp, World.ownsRow_nil _ _ _ _, (fun x h => by cases h), HA3.out, rfl, fun h => by cases h⟩
          case round =>
            clear HA3 c1 c2
            obtain ⟨q, m, pb, hq, rfl, rfl, hml, HM, HRm, HA, HG, HP⟩ := hrel
            have hws := HA.out.below.size
            have c1 := (HA.out.below.cell (p := ⟨b1, o1 + k * 2, none⟩) hb1).trans p1
            have c2 := (HA.out.below.cell (p := ⟨b1, o1 + k * 2 + 1, none⟩) hb1).trans p2
            obtain ⟨x0, x1, hbx⟩ := HA.out.cells
            by_cases hql : q < sl.length
            · obtain ⟨⟨tx, bx⟩, hy⟩ : ∃ x, sl[q]? = some x := ⟨_, List.getElem?_eq_getElem hql⟩
              obtain ⟨e1, f1, rfl, y0, y1⟩ := samGet (HS1.out.below HA.out.below (Nat.le_refl _)) hy
              have hrx : -9223372036854775808 ≤ tx ∧ tx ≤ 9223372036854775807 ∧ bx ≤ 18446744073709551615 := HS1.out.choose_spec.choose_spec.2.2.1 (tx, bx) (List.mem_of_getElem? hy)
              have hnx := addGo_next hy HG.out HP.out HSo1.out
              simp only at y0 y1 hnx
              have HNx := hide hnx
              have HRx := hide hrx
              clear hy hnx hrx HG HP
              have z0 : (wr.alloc (.cells #[.int .i64 tx, .int .u64 bx] 34)).cell? ⟨wr.heap.size, 0, none⟩ = some (.int .i64 tx) := World.cell?_alloc_new _ _ _ 0
              have z1 : (wr.alloc (.cells #[.int .i64 tx, .int .u64 bx] 34)).cell? ⟨wr.heap.size, 1, none⟩ = some (.int .u64 bx) := World.cell?_alloc_new _ _ _ 1
              have k0 := (World.cell?_alloc_old wr (.cells #[.int .i64 tx, .int .u64 bx] 34) ⟨W.heap.size, 0, none⟩ (by show W.heap.size ≠ wr.heap.size; omega)).trans x0
              have k1 := (World.cell?_alloc_old wr (.cells #[.int .i64 tx, .int .u64 bx] 34) ⟨W.heap.size, 1, none⟩ (by show W.heap.size ≠ wr.heap.size; omega)).trans x1
              have HML := hide (World.ownsRow.lt HM.out)
              cases pb with
              | true =>
                obtain ⟨hlt2, hE3⟩ := HNx.out.1 rfl
                have HE3 := hide hE3
                have HP3 : Hid (∀ y ∈ sl.drop (q + 1), t < y.1) := HNx.out.2.2.2.2 (by omega)
                have hne : ¬ tx = t := by omega
                clear hE3 HNx
                go_wp2_with (first | (at_builtin; refine wpList_append_heir _ rfl (.tmp 95) (.tmp 97) 35 rfl (W.heap.size + 1) 34 i1 (.agg #[.int .i64 0, .int .u64 0]) 2 16 Tryz.underlying35 hi1 hy0 hy1 hy2 rfl (by decide) u11 m.length (samCells m) rfl (own_alloc (own_alloc HM.out _) _) ⟨wr.heap.size + 1, 0, none⟩ 1 1 [.int .i64 tx, .int .u64 bx] rfl rfl (by have := cells_new (wr.alloc (.cells #[.int .i64 tx, .int .u64 bx] 34)) [.int .i64 tx, .int .u64 bx] 34; simpa using this) (one_two rfl rfl) (by unfold maxLen; omega) (by omega) (by simp; omega) ?_) | fail)
                intro v5 w5 ho5 hg5 hh5
                have HM5 : Hid (w5.ownsRow (W.heap.size + 1) 34 2 v5 (m ++ [(tx, bx)]).length (samCells (m ++ [(tx, bx)]))) := by rw [samCells_snoc, List.length_append]; exact ho5
                have hb5 : Below W.heap.size W w5 := ((HA.out.below.alloc (by omega) _).alloc (by simp; omega) _).grown hg5 (by simp; omega) (fun k e => by have := (HML.out k e).1; omega)
                have HA5 := hide (HA.out.other HM.out (fun k hk hne => (hg5.block k (by simp; omega) hne).trans ((heap_alloc_old _ _ (by simp; omega)).trans (heap_alloc_old wr _ hk))) hb5)
                have HR5 := hide (HRm.out.snoc (x := (tx, bx)) HRx.out)
                clear ho5 hg5 hh5 hb5 HM HA HRm HML
                go_wp2
                go_roundw
                case rel => exact ⟨q + 1, m ++ [(tx, bx)], true, by omega, by go_num, rfl, by simp; omega, HM5.out, HR5.out, HA5.out, HE3.out, fun _ => HP3.out⟩
                case measure => simp [intOf]; omega
              | false =>
                by_cases hlt2 : t < tx
                · have HE3 := hide (HNx.out.2.1 rfl hlt2)
                  have HP3 : Hid (∀ y ∈ sl.drop (q + 1), t < y.1) := HNx.out.2.2.2.2 (by omega)
                  have hne : ¬ tx = t := by omega
                  clear HNx
                  go_wp2_with (first | (at_builtin; refine wpList_append_heir _ rfl (.tmp 80) (.tmp 82) 35 rfl (W.heap.size + 1) 34 i1 (.agg #[.int .i64 0, .int .u64 0]) 2 16 Tryz.underlying35 hi1 hy0 hy1 hy2 rfl (by decide) u11 m.length (samCells m) rfl (own_alloc (own_alloc HM.out _) _) ⟨wr.heap.size + 1, 0, none⟩ 1 1 [.int .i64 t, .int .u64 u] rfl rfl (by have := cells_new (wr.alloc (.cells #[.int .i64 tx, .int .u64 bx] 34)) [.int .i64 t, .int .u64 u] 34; simpa using this) (one_two rfl rfl) (by unfold maxLen; omega) (by omega) (by simp; omega) ?_) | fail)
                  intro v4 w4 ho4 hg4 hh4
                  have HM4 : Hid (w4.ownsRow (W.heap.size + 1) 34 2 v4 (m ++ [(t, u)]).length (samCells (m ++ [(t, u)]))) := by rw [samCells_snoc, List.length_append]; exact ho4
                  have hb4 : Below W.heap.size W w4 := ((HA.out.below.alloc (by omega) _).alloc (by simp; omega) _).grown hg4 (by simp; omega) (fun k e => by have := (HML.out k e).1; omega)
                  have hs4 : wr.heap.size + 2 ≤ w4.heap.size := by have := hg4.size; simpa using this
                  have hkk : ∀ k, k < wr.heap.size + 1 → some k ≠ u11.ownBlock → w4.heap[k]? = (wr.alloc (.cells #[.int .i64 tx, .int .u64 bx] 34)).heap[k]? := fun k hk hne => (hg4.block k (by simp; omega) hne).trans (heap_alloc_old _ _ (by simp; omega))
                  have hxo : some wr.heap.size ≠ u11.ownBlock := fun e => by have := (HML.out _ e.symm).2; omega
                  have hbo : some W.heap.size ≠ u11.ownBlock := fun e => by have := (HML.out _ e.symm).1; omega
                  have d0 := (World.cell?_of_block (a := ⟨wr.heap.size, 0, none⟩) (hkk wr.heap.size (by omega) hxo)).trans z0
                  have d1 := (World.cell?_of_block (a := ⟨wr.heap.size, 1, none⟩) (hkk wr.heap.size (by omega) hxo)).trans z1
                  have d2 := (World.cell?_of_block (a := ⟨W.heap.size, 0, none⟩) (hkk W.heap.size (by omega) hbo)).trans k0
                  have d3 := (World.cell?_of_block (a := ⟨W.heap.size, 1, none⟩) (hkk W.heap.size (by omega) hbo)).trans k1
                  have HA4 := hide (HA.out.other HM.out (fun k hk hne => (hkk k (by omega) hne).trans (heap_alloc_old wr _ hk)) hb4)
                  have HR4 := hide (HRm.out.snoc (x := (t, u)) HRg.out)
                  have hml4 : (m ++ [(t, u)]).length ≤ 2 * q + 1 := by simp; omega
                  have HML4 := hide (World.ownsRow.lt HM4.out)
                  clear ho4 hg4 hh4 hb4 HM HA HRm HML hkk hxo hbo z0 z1 k0 k1
                  generalize hm2 : m ++ [(t, u)] = m2 at *
                  clear hm2
                  go_wp2_with (first | (at_builtin; refine wpList_append_heir _ rfl (.tmp 95) (.tmp 97) 35 rfl (W.heap.size + 1) 34 i1 (.agg #[.int .i64 0, .int .u64 0]) 2 16 Tryz.underlying35 hi1 hy0 hy1 hy2 rfl (by decide) v4 m2.length (samCells m2) rfl (own_alloc HM4.out _) ⟨w4.heap.size, 0, none⟩ 1 1 [.int .i64 tx, .int .u64 bx] rfl rfl (cells_new w4 [.int .i64 tx, .int .u64 bx] 34) (one_two rfl rfl) (by unfold maxLen; omega) (by omega) (by simp; omega) ?_) | fail)
                  intro v5 w5 ho5 hg5 hh5
                  have HM5 : Hid (w5.ownsRow (W.heap.size + 1) 34 2 v5 (m2 ++ [(tx, bx)]).length (samCells (m2 ++ [(tx, bx)]))) := by rw [samCells_snoc, List.length_append]; exact ho5
                  have hb5 : Below W.heap.size W w5 := (HA4.out.below.alloc (by omega) _).grown hg5 (by simp; omega) (fun k e => by have := (HML4.out k e).1; omega)
                  have HA5 := hide (HA4.out.other HM4.out (fun k hk hne => (hg5.block k (by simp; omega) hne).trans (heap_alloc_old w4 _ hk)) hb5)
                  have HR5 := hide (HR4.out.snoc (x := (tx, bx)) HRx.out)
                  clear ho5 hg5 hh5 hb5 HM4 HA4 HR4 HML4
                  go_wp2
                  go_roundw
                  case rel => exact ⟨q + 1, m2 ++ [(tx, bx)], true, by omega, by go_num, rfl, by simp; omega, HM5.out, HR5.out, HA5.out, HE3.out, fun _ => HP3.out⟩
                  case measure => simp [intOf]; omega
                · by_cases heq : tx = t
                  · subst heq
                    have hE3 := HNx.out.2.2.1 rfl rfl
                    have HP3 : Hid (∀ y ∈ sl.drop (q + 1), tx < y.1) := HNx.out.2.2.2.2 (Int.le_refl _)
                    by_cases hbu : bx < u
                    · rw [if_pos hbu] at hE3
                      have HE3 := hide hE3
                      have hbi : (bx : Int) < (u : Int) := by omega
                      clear hE3 HNx
                      go_wp2_with (first | (at_builtin; refine wpList_append_heir _ rfl (.tmp 95) (.tmp 97) 35 rfl (W.heap.size + 1) 34 i1 (.agg #[.int .i64 0, .int .u64 0]) 2 16 Tryz.underlying35 hi1 hy0 hy1 hy2 rfl (by decide) u11 m.length (samCells m) rfl (own_alloc (own_alloc HM.out _) _) ⟨wr.heap.size + 1, 0, none⟩ 1 1 [.int .i64 tx, .int .u64 u] rfl rfl (by have := cells_new (wr.alloc (.cells #[.int .i64 tx, .int .u64 u] 34)) [.int .i64 tx, .int .u64 u] 34; simpa using this) (one_two rfl rfl) (by unfold maxLen; omega) (by omega) (by simp; omega) ?_) | fail)
                      intro v5 w5 ho5 hg5 hh5
                      have HM5 : Hid (w5.ownsRow (W.heap.size + 1) 34 2 v5 (m ++ [(tx, u)]).length (samCells (m ++ [(tx, u)]))) := by rw [samCells_snoc, List.length_append]; exact ho5
                      have hb5 : Below W.heap.size W w5 := ((HA.out.below.alloc (by omega) _).alloc (by simp; omega) _).grown hg5 (by simp; omega) (fun k e => by have := (HML.out k e).1; omega)
                      have HA5 := hide (HA.out.other HM.out (fun k hk hne => (hg5.block k (by simp; omega) hne).trans ((heap_alloc_old _ _ (by simp; omega)).trans (heap_alloc_old wr _ hk))) hb5)
                      have HR5 := hide (HRm.out.snoc (x := (tx, u)) HRg.out)
                      clear ho5 hg5 hh5 hb5 HM HA HRm HML
                      go_wp2
                      go_roundw
                      case rel => exact ⟨q + 1, m ++ [(tx, u)], true, by omega, by go_num, rfl, by simp; omega, HM5.out, HR5.out, HA5.out, HE3.out, fun _ => HP3.out⟩
                      case measure => simp [intOf]; omega
                    · rw [if_neg hbu] at hE3
                      have HE3 := hide hE3
                      have hbi : ¬ (bx : Int) < (u : Int) := by omega
                      clear hE3 HNx
                      go_wp2_with (first | (at_builtin; refine wpList_append_heir _ rfl (.tmp 95) (.tmp 97) 35 rfl (W.heap.size + 1) 34 i1 (.agg #[.int .i64 0, .int .u64 0]) 2 16 Tryz.underlying35 hi1 hy0 hy1 hy2 rfl (by decide) u11 m.length (samCells m) rfl (own_alloc (own_alloc HM.out _) _) ⟨wr.heap.size + 1, 0, none⟩ 1 1 [.int .i64 tx, .int .u64 bx] rfl rfl (by have := cells_new (wr.alloc (.cells #[.int .i64 tx, .int .u64 bx] 34)) [.int .i64 tx, .int .u64 bx] 34; simpa using this) (one_two rfl rfl) (by unfold maxLen; omega) (by omega) (by simp; omega) ?_) | fail)
                      intro v5 w5 ho5 hg5 hh5
                      have HM5 : Hid (w5.ownsRow (W.heap.size + 1) 34 2 v5 (m ++ [(tx, bx)]).length (samCells (m ++ [(tx, bx)]))) := by rw [samCells_snoc, List.length_append]; exact ho5
                      have hb5 : Below W.heap.size W w5 := ((HA.out.below.alloc (by omega) _).alloc (by simp; omega) _).grown hg5 (by simp; omega) (fun k e => by have := (HML.out k e).1; omega)
                      have HA5 := hide (HA.out.other HM.out (fun k hk hne => (hg5.block k (by simp; omega) hne).trans ((heap_alloc_old _ _ (by simp; omega)).trans (heap_alloc_old wr _ hk))) hb5)
                      have HR5 := hide (HRm.out.snoc (x := (tx, bx)) HRx.out)
                      clear ho5 hg5 hh5 hb5 HM HA HRm HML
                      go_wp2
                      go_roundw
                      case rel => exact ⟨q + 1, m ++ [(tx, bx)], true, by omega, by go_num, rfl, by simp; omega, HM5.out, HR5.out, HA5.out, HE3.out, fun _ => HP3.out⟩
                      case measure => simp [intOf]; omega
                  · have HE3 := hide (HNx.out.2.2.2.1 rfl (by omega))
                    clear HNx
                    go_wp2_with (first | (at_builtin; refine wpList_append_heir _ rfl (.tmp 95) (.tmp 97) 35 rfl (W.heap.size + 1) 34 i1 (.agg #[.int .i64 0, .int .u64 0]) 2 16 Tryz.underlying35 hi1 hy0 hy1 hy2 rfl (by decide) u11 m.length (samCells m) rfl (own_alloc (own_alloc HM.out _) _) ⟨wr.heap.size + 1, 0, none⟩ 1 1 [.int .i64 tx, .int .u64 bx] rfl rfl (by have := cells_new (wr.alloc (.cells #[.int .i64 tx, .int .u64 bx] 34)) [.int .i64 tx, .int .u64 bx] 34; simpa using this) (one_two rfl rfl) (by unfold maxLen; omega) (by omega) (by simp; omega) ?_) | fail)
                    intro v5 w5 ho5 hg5 hh5
                    have HM5 : Hid (w5.ownsRow (W.heap.size + 1) 34 2 v5 (m ++ [(tx, bx)]).length (samCells (m ++ [(tx, bx)]))) := by rw [samCells_snoc, List.length_append]; exact ho5
                    have hb5 : Below W.heap.size W w5 := ((HA.out.below.alloc (by omega) _).alloc (by simp; omega) _).grown hg5 (by simp; omega) (fun k e => by have := (HML.out k e).1; omega)
                    have HA5 := hide (HA.out.other HM.out (fun k hk hne => (hg5.block k (by simp; omega) hne).trans ((heap_alloc_old _ _ (by simp; omega)).trans (heap_alloc_old wr _ hk))) hb5)
                    have HR5 := hide (HRm.out.snoc (x := (tx, bx)) HRx.out)
                    clear ho5 hg5 hh5 hb5 HM HA HRm HML
                    go_wp2
                    go_roundw
                    case rel => exact ⟨q + 1, m ++ [(tx, bx)], false, by omega, by go_num, rfl, by simp; omega, HM5.out, HR5.out, HA5.out, HE3.out, fun h => by cases h⟩
                    case measure => simp [intOf]; omega
            · obtain ⟨a11, c11, rfl⟩ := own_shape HM.out
              have HML := hide (World.ownsRow.lt HM.out)
              have hdn : sl.drop q = [] := List.drop_eq_nil_of_le (by omega)
              cases pb with
              | true =>
                have hme : m = addS (t, u) sl := by have h := HG.out; rw [hdn] at h; simpa [addGo] using h
                subst hme
                clear HG HP hdn
                go_wp2_with (first | (at_builtin; refine wpList_append_heir _ rfl (.tmp 105) (.tmp 109) 39 rfl (W.heap.size + 1) 38 i0 (.agg #[.slice none 0 0, .slice none 0 0]) 2 48 Tryz.underlying39 hi hz0 hz1 hz2 rfl (by decide) u7 done.length (serCells vals) rfl (own_alloc HA.out.own _) ⟨wr.heap.size, 0, none⟩ 1 1 [.slice la l.length lc, .slice a11 (addS (t, u) sl).length c11] rfl rfl (cells_new wr _ _) (one_two rfl rfl) (by unfold maxLen; omega) (by omega) (by simp; omega) ?_) | fail)
                intro v5 w5 ho5 hg5 hh5
                have HB5 : Hid (Below W.heap.size W w5) := (HA.out.below.alloc (by omega) _).grown hg5 (by simp; omega) (fun q e => by have := (World.ownsRow.lt HA.out.own q e).1; omega)
                have HM5 : Hid (w5.ownsRow (W.heap.size + 1) 34 2 (.slice a11 (addS (t, u) sl).length c11) (addS (t, u) sl).length (samCells (addS (t, u) sl))) := own_kept HM.out fun k e => (hg5.block k (by have := (HML.out k e).2; simp; omega) (fun e' => own_types HM.out HA.out.own (by decide) k e e'.symm)).trans (heap_alloc_old wr _ (HML.out k e).2)
                have HA5 : Hid (AddSt W w5 t u v5 (done ++ [(l, addS (t, u) sl)]) (vals ++ [(.slice la l.length lc, .slice a11 (addS (t, u) sl).length c11)]) true) := HA.out.grow (fun h => by cases h) (fun q hq hne => (hg5.block q (by simp; omega) hne).trans (heap_alloc_old wr _ hq)) HB5.out (by exact ho5) rfl (ent_one HL.out (.inr ⟨rfl, HRm.out, HM5.out⟩))
                clear ho5 hg5 hh5 HA HB5 HM HML HM5
                go_wp2
                go_roundw
                case rel => exact ⟨k + 1, done ++ [(l, addS (t, u) sl)], _, true, by omega, by go_num, rfl, by simp; omega, (fun h => by cases h), HA5.out, HE5.out⟩
                case measure => simp [intOf]; omega
              | false =>
                have hme : m ++ [(t, u)] = addS (t, u) sl := by have h := HG.out; rw [hdn] at h; simpa [addGo, addS] using h
                have HMe := hide hme
                clear HG HP hdn hme
                go_wp2_with (first | (at_builtin; refine wpList_append_heir _ rfl (.tmp 101) (.tmp 103) 35 rfl (W.heap.size + 1) 34 i1 (.agg #[.int .i64 0, .int .u64 0]) 2 16 Tryz.underlying35 hi1 hy0 hy1 hy2 rfl (by decide) (.slice a11 m.length c11) m.length (samCells m) rfl (own_alloc HM.out _) ⟨wr.heap.size, 0, none⟩ 1 1 [.int .i64 t, .int .u64 u] rfl rfl (cells_new wr _ _) (one_two rfl rfl) (by unfold maxLen; omega) (by omega) (by simp; omega) ?_) | fail)
                intro v4 w4 ho4 hg4 hh4
                have HM4 : Hid (w4.ownsRow (W.heap.size + 1) 34 2 v4 (addS (t, u) sl).length (samCells (addS (t, u) sl))) := by rw [← HMe.out, samCells_snoc, List.length_append]; exact ho4
                have hb4 : Below W.heap.size W w4 := (HA.out.below.alloc (by omega) _).grown hg4 (by simp; omega) (fun k e => by have := (HML.out k e).1; omega)
                have hs4 : wr.heap.size + 1 ≤ w4.heap.size := by have := hg4.size; simpa using this
                have HA4 := hide (HA.out.other HM.out (fun k hk hne => (hg4.block k (by simp; omega) hne).trans (heap_alloc_old wr _ hk)) hb4)
                have HR4 : Hid (Rng (addS (t, u) sl)) := by rw [← HMe.out]; exact HRm.out.snoc (x := (t, u)) HRg.out
                obtain ⟨a12, c12, rfl⟩ := own_shape HM4.out
                have HML4 := hide (World.ownsRow.lt HM4.out)
                clear ho4 hg4 hh4 hb4 HM HA HRm HML
                go_wp2_with (first | (at_builtin; refine wpList_append_heir _ rfl (.tmp 105) (.tmp 109) 39 rfl (W.heap.size + 1) 38 i0 (.agg #[.slice none 0 0, .slice none 0 0]) 2 48 Tryz.underlying39 hi hz0 hz1 hz2 rfl (by decide) u7 done.length (serCells vals) rfl (own_alloc HA4.out.own _) ⟨w4.heap.size, 0, none⟩ 1 1 [.slice la l.length lc, .slice a12 (addS (t, u) sl).length c12] rfl rfl (cells_new w4 _ _) (one_two rfl rfl) (by unfold maxLen; omega) (by omega) (by simp; omega) ?_) | fail)
                intro v5 w5 ho5 hg5 hh5
                have HB5 : Hid (Below W.heap.size W w5) := (HA4.out.below.alloc (by omega) _).grown hg5 (by simp; omega) (fun q e => by have := (World.ownsRow.lt HA4.out.own q e).1; omega)
                have HM5 : Hid (w5.ownsRow (W.heap.size + 1) 34 2 (.slice a12 (addS (t, u) sl).length c12) (addS (t, u) sl).length (samCells (addS (t, u) sl))) := own_kept HM4.out fun k e => (hg5.block k (by have := (HML4.out k e).2; simp; omega) (fun e' => own_types HM4.out HA4.out.own (by decide) k e e'.symm)).trans (heap_alloc_old w4 _ (HML4.out k e).2)
                have HA5 : Hid (AddSt W w5 t u v5 (done ++ [(l, addS (t, u) sl)]) (vals ++ [(.slice la l.length lc, .slice a12 (addS (t, u) sl).length c12)]) true) := HA4.out.grow (fun h => by cases h) (fun q hq hne => (hg5.block q (by simp; omega) hne).trans (heap_alloc_old w4 _ hq)) HB5.out (by exact ho5) rfl (ent_one HL.out (.inr ⟨rfl, HR4.out, HM5.out⟩))
                clear ho5 hg5 hh5 HA4 HB5 HM4 HML4 HM5
                go_wp2
                go_roundw
                case rel => exact ⟨k + 1, done ++ [(l, addS (t, u) sl)], _, true, by omega, by go_num, rfl, by simp; omega, (fun h => by cases h), HA5.out, HE5.out⟩
                case measure => simp [intOf]; omega
        · have hE0 : done ++ ((l, [(t, u)]) :: (ll, sl) :: bs.drop (k + 1)) = addB l (t, u) bs := by
            have h1 := HE2.out
            simpa [addBo, addB, HC.out] using h1
          have HE5 : Hid ((done ++ [(l, [(t, u)]), (ll, sl)]) ++ addBo l (t, u) true (bs.drop (k + 1)) = addB l (t, u) bs) := hide (by simpa [addBo] using hE0)
          obtain ⟨x0, x1, hbx⟩ := HA3.out.cells
          have hb3 : b1 < w3.heap.size := by omega
          have HOL := hide (World.ownsRow.lt HA3.out.own)
          have hdk : done.length ≤ k := HDf.out rfl
          clear HE2 hE0
          go_wp2
          as_aux_lemma =>
            go_region_held3 (fun w' => w'.cell? ⟨W.heap.size, 0, none⟩ = some (.int .i64 t) ∧ w'.cell? ⟨W.heap.size, 1, none⟩ = some (.int .u64 u) ∧ w'.cell? ⟨b1, o1 + k * 2, none⟩ = some (.slice la1 ll.length lc1) ∧ w'.cell? ⟨b1, o1 + k * 2 + 1, none⟩ = some (.slice sa1 sl.length sc1)) (first | go_keep | (go_split_ands; refine ⟨?_, ?_, ?_, ?_⟩ <;> (rw [hgrow.cell_far _ (by simp; omega) (by intro e; have h8 := (HOL.out _ e.symm).1; simp at h8; omega)]; first | assumption | (rw [World.cell?_alloc_old _ _ _ (by simp; omega), World.cell?_alloc_old _ _ _ (by simp; omega)]; assumption)))) (first | (refine step_append_lies _ (by rfl) (.tmp 42) (.tmp 51) 39 (by rfl) (W.heap.size + 1) 38 i0 (.agg #[.slice none 0 0, .slice none 0 0]) 2 48 Tryz.underlying39 hi hz0 hz1 hz2 rfl (by decide) u7 done.length (serCells vals) (by rfl) (own_alloc (own_alloc HA3.out.own _) _) ⟨w3.heap.size + 1, 0, none⟩ 2 2 [.slice la l.length lc, .slice (some ⟨w3.heap.size, 0, none⟩) 1 1, .slice la1 ll.length lc1, .slice sa1 sl.length sc1] (by rfl) rfl (by have h9 := cells_new (w3.alloc (.cells #[.int .i64 t, .int .u64 u] 34)) [.slice la l.length lc, .slice (some ⟨w3.heap.size, 0, none⟩) 1 1, .slice la1 ll.length lc1, .slice sa1 sl.length sc1] 38; simpa using h9) (by intro x hx; simp at hx; rcases hx with rfl | rfl | rfl | rfl <;> rfl) (by decide) (by unfold maxLen; omega) (by omega) (by simp; omega) (w3.heap.size + 1 + 1) (by simp) ?_; intro g2 cap2 w5 hown5 hgrow hat hgl5) | fail)
            all_goals
              have HB5 : Hid (Below W.heap.size W w5) := (((HA3.out.below.alloc (by omega) _).alloc (by simp; omega) _).drew).grown hgrow (by simp; omega) (fun q e => by have := (HOL.out q e).1; omega)
              have hno : some w3.heap.size ≠ u7.ownBlock := fun e => by have := (HOL.out _ e.symm).2; omega
              have HM5 : Hid (w5.ownsRow (W.heap.size + 1) 34 2 (.slice (some ⟨w3.heap.size, 0, none⟩) 1 1) [(t, u)].length (samCells [(t, u)])) := own_kept (World.ownsRow_lit (base := W.heap.size + 1) (e := 34) (size := 2) w3 #[.int .i64 t, .int .u64 u] 1 (by omega) (by decide) rfl) fun k e => by
                have e2 : w3.heap.size = k := Option.some.inj e
                subst e2
                exact (hgrow.block _ (by simp; omega) hno).trans (heap_alloc_old _ _ (by simp))
              have HA5 : Hid (AddSt W w5 t u (.slice (some ⟨g2, 0, none⟩) (done.length + 2) cap2) (done ++ [(l, [(t, u)]), (ll, sl)]) (vals ++ [(.slice la l.length lc, .slice (some ⟨w3.heap.size, 0, none⟩) 1 1), (.slice la1 ll.length lc1, .slice sa1 sl.length sc1)]) true) := HA3.out.grow (fun h => by cases h) (fun q hq hne => (hgrow.block q (by simp; omega) hne).trans ((heap_alloc_old _ _ (by simp; omega)).trans (heap_alloc_old w3 _ hq))) HB5.out (by exact hown5) rfl (fun i p x hp hx => by
                match i, hp, hx with
                | 0, hp, hx => simp at hp hx; subst hp; subst hx; exact ⟨HL.out, .inr ⟨rfl, (fun x hx => by rw [List.mem_singleton.1 hx]; exact HRg.out), HM5.out⟩⟩
                | 1, hp, hx => simp at hp hx; subst hp; subst hx; exact ⟨HL1.out, .inl HS1.out⟩
                | i + 2, hp, _ => simp at hp)
              clear hown5 hgrow hat hgl5 HA3 HB5 HM5
              go_wp2
              go_roundw
              case rel => exact ⟨k + 1, done ++ [(l, [(t, u)]), (ll, sl)], _, true, by omega, by go_num, rfl, by simp; omega, (fun h => by cases h), HA5.out, HE5.out⟩
              case measure => simp [intOf]; omega
    · obtain rfl : k = bs.length := by omega
      have hdn : bs.drop bs.length = [] := List.drop_eq_nil_of_le (Nat.le_refl _)
      cases ib with
      | true =>
        have hme : done = addB l (t, u) bs := by have h := HE.out; rw [hdn] at h; simpa [addBo] using h
        subst hme
        clear HE hdn
        go_wp2
        go_ret
        exact ⟨_, rfl, HA.out.batchAt, HA.out.below⟩
      | false =>
        have hme : done ++ [(l, [(t, u)])] = addB l (t, u) bs := by have h := HE.out; rw [hdn] at h; simpa [addBo, addB] using h
        have HMe := hide hme
        obtain ⟨x0, x1, hbx⟩ := HA.out.cells
        clear HE hdn hme
        go_wp2_with (first | (at_builtin; refine wpList_append_heir _ rfl (.tmp 113) (.tmp 118) 39 rfl (W.heap.size + 1) 38 i0 (.agg #[.slice none 0 0, .slice none 0 0]) 2 48 Tryz.underlying39 hi hz0 hz1 hz2 rfl (by decide) u7 done.length (serCells vals) rfl (own_alloc (own_alloc HA.out.own _) _) ⟨wr.heap.size + 1, 0, none⟩ 1 1 [.slice la l.length lc, .slice (some ⟨wr.heap.size, 0, none⟩) 1 1] rfl rfl (by have := cells_new (wr.alloc (.cells #[.int .i64 t, .int .u64 u] 34)) [.slice la l.length lc, .slice (some ⟨wr.heap.size, 0, none⟩) 1 1] 38; simpa using this) (one_two rfl rfl) (by unfold maxLen; omega) (by omega) (by simp; omega) ?_) | fail)
        intro v5 w5 ho5 hg5 hh5
        have HB5 : Hid (Below W.heap.size W w5) := ((HA.out.below.alloc (by omega) _).alloc (by simp; omega) _).grown hg5 (by simp; omega) (fun q e => by have := (World.ownsRow.lt HA.out.own q e).1; omega)
        have hno : some wr.heap.size ≠ u7.ownBlock := fun e => by have := (World.ownsRow.lt HA.out.own _ e.symm).2; omega
        have HM5 : Hid (w5.ownsRow (W.heap.size + 1) 34 2 (.slice (some ⟨wr.heap.size, 0, none⟩) 1 1) [(t, u)].length (samCells [(t, u)])) := own_kept (World.ownsRow_lit (base := W.heap.size + 1) (e := 34) (size := 2) wr #[.int .i64 t, .int .u64 u] 1 (by omega) (by decide) rfl) fun k e => by
          have e2 : wr.heap.size = k := Option.some.inj e
          subst e2
          exact (hg5.block _ (by simp; omega) hno).trans (heap_alloc_old _ _ (by simp))
        have HA5 : Hid (AddSt W w5 t u v5 (done ++ [(l, [(t, u)])]) (vals ++ [(.slice la l.length lc, .slice (some ⟨wr.heap.size, 0, none⟩) 1 1)]) true) := HA.out.grow (fun h => by cases h) (fun q hq hne => (hg5.block q (by simp; omega) hne).trans ((heap_alloc_old _ _ (by simp; omega)).trans (heap_alloc_old wr _ hq))) HB5.out (by exact ho5) rfl (ent_one HL.out (.inr ⟨rfl, (fun x hx => by rw [List.mem_singleton.1 hx]; exact HRg.out), HM5.out⟩))
        have HF : Hid (BatchAt w5 w5.heap.size v5 (addB l (t, u) bs) ∧ Below W.heap.size W w5) := by
          rw [← HMe.out]; exact ⟨HA5.out.batchAt, HA5.out.below⟩
        clear ho5 hg5 hh5 HA HB5 HM5 HA5 HMe
        go_wp2
        go_ret
        exact ⟨_, rfl, HF.out⟩
end Go.Proofs.YtamcclcbmenjdaaGreatDoor

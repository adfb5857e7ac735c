/- 'choirlaw.Joins', for any two lists of series of bulk at most 1048576: Join answers the document's join or error, either way round; what is handed in stays, what comes out is its owner's. The second form's statement: its only condition is the row's own bound on the arguments' bulk. -/
import Derived.Test.YtcidgfdiacehmaaJoinsuptoG32
/- The reference's add: the walk. -/
namespace Go.Proofs.Ytcidgfdiacehmaa
open Go.RowKit Go.Lib

set_option maxRecDepth 100000 in
set_option maxHeartbeats 2000000 in
theorem refAdd_any (W : World) (v lv : Value) (bs : List Ser) (l : List Lab) (t : Int) (u : Nat) (hv : BatchAt W W.heap.size v bs) (hl : LabelsAt W W.heap.size lv l) (hr : -9223372036854775808 ≤ t ∧ t ≤ 9223372036854775807 ∧ u ≤ 18446744073709551615) (hso : ∀ x ∈ bs, x.2.Pairwise SLt) (hn : bs.length ≤ 1000000000) (hsn : ∀ x ∈ bs, x.1.length ≤ 1000000000 ∧ x.2.length ≤ 1000000000) :
    Calls Try.prog 36 #[v, lv, .agg #[.int .i64 t, .int .u64 u]] W fun e w' => ∃ v', e = .returned v' ∧ BatchAt w' w'.heap.size v' (addB l (t, u) bs) ∧ Below W.heap.size W w' := by
  obtain ⟨i0, hi, hz0, hz1, hz2⟩ := info_parts Try.infoSer
  obtain ⟨i1, hi1, hy0, hy1, hy2⟩ := info_parts Try.infoSam
  obtain ⟨va, vc, rfl, -⟩ := id hv
  obtain ⟨la, lc, rfl, -⟩ := id hl
  have HV := hide hv
  have HL := hide hl
  have HSo := hide hso
  have HSn := hide hsn
  have HRg := hide hr
  have H0 : Hid (AddSt W (W.alloc (.cells #[.int .i64 t, .int .u64 u] 33)) t u (.slice none 0 0) [] [] false) :=
    ⟨(Below.refl _ _).alloc (Nat.le_refl _) _, heap_alloc_new W _, rfl, World.ownsRow_nil _ _ _ _, fun i p x h _ => by simp at h⟩
  clear hv hl hso hsn hr
  go_enter Try.func36, Try.ntmps36
  go_wp2
  go_loopw [7, 8, 9, 10, 11, 12, 13, 14] (fun ov inn i _ _ _ _ _ wr => ∃ (k : Nat) (done : List Ser) (vals : List (Value × Value)) (ib : Bool), k ≤ bs.length ∧ i = .int .i64 k ∧ inn = .bool ib ∧ done.length ≤ k + 1 ∧ Hid (ib = false → done.length ≤ k) ∧ Hid (AddSt W wr t u ov done vals ib) ∧ Hid (done ++ addBo l (t, u) ib (bs.drop k) = addB l (t, u) bs)) (fun _ _ i _ _ _ _ _ _ => bs.length - (intOf i).toNat)
  case atStart => exact ⟨0, [], [], false, Nat.zero_le _, rfl, rfl, by simp, (fun _ => by simp), H0.out, rfl⟩
  case round =>
    clear H0
    obtain ⟨k, done, vals, ib, hk, rfl, rfl, hdl, HDf, HA, HE⟩ := hrel
    have hws := HA.out.below.size
    by_cases hlt : k < bs.length
    · obtain ⟨⟨ll, sl⟩, hx⟩ : ∃ x, bs[k]? = some x := ⟨_, List.getElem?_eq_getElem hlt⟩
      obtain ⟨b1, o1, la1, lc1, sa1, sc1, rfl, hb1, p1, p2, L1, S1⟩ := HV.out.get hx
      have hsn := HSn.out _ (List.mem_of_getElem? hx)
      have hso := HSo.out _ (List.mem_of_getElem? hx)
      simp only at p1 p2 L1 S1 hsn hso
      have m1 := (HA.out.below.cell (p := ⟨b1, o1 + k * 2, none⟩) hb1).trans p1
      have m2 := (HA.out.below.cell (p := ⟨b1, o1 + k * 2 + 1, none⟩) hb1).trans p2
      have C := hide (refOrder_any W.heap.size (.slice la1 ll.length lc1) (.slice la l.length lc) ll l wr (L1.below HA.out.below (Nat.le_refl _)) (HL.out.below HA.out.below (Nat.le_refl _)) hws (by omega))
      have hdr := drop_more hx
      have hE2 := HE.out
      rw [hdr] at hE2
      have HE2 := hide hE2
      have HSo1 := hide hso
      have HL1 := hide L1
      have HS1 := hide S1
      have h3 := cmpLabs_three ll l
      generalize hc : cmpLabs ll l = q at *
      have HC := hide hc
      clear hx L1 S1 hso hdr HE hc hE2
      go_wp2_with fail
      refine C.out.mono ?_
      rintro e w3 ⟨rfl, hb3⟩
      have hs3 := hb3.size
      have HA3 := hide (HA.out.kept hb3)
      have c1 := (hb3.cell (p := ⟨b1, o1 + k * 2, none⟩) (by show b1 < wr.heap.size; omega)).trans m1
      have c2 := (hb3.cell (p := ⟨b1, o1 + k * 2 + 1, none⟩) (by show b1 < wr.heap.size; omega)).trans m2
      clear hb3 C m1 m2 HA
      cases ib with
      | true =>
        have HE5 : Hid ((done ++ [(ll, sl)]) ++ addBo l (t, u) true (bs.drop (k + 1)) = addB l (t, u) bs) := by
          have := HE2.out
          exact hide (by simpa [addBo] using this)
        clear HE2
        rcases h3 with rfl | rfl | rfl
        all_goals
          go_wp2_with (first | (at_builtin; refine wpList_append_heir _ rfl (.tmp 33) (.tmp 38) 22 rfl (W.heap.size + 1) 37 i0 (.agg #[.slice none 0 0, .slice none 0 0]) 2 48 Try.underlying22 hi hz0 hz1 hz2 rfl (by decide) u7 done.length (serCells vals) rfl (own_alloc HA3.out.own _) ⟨w3.heap.size, 0, none⟩ 1 1 [.slice la1 ll.length lc1, .slice sa1 sl.length sc1] rfl rfl (cells_new w3 _ _) (one_two rfl rfl) (by unfold maxLen; omega) (by omega) (by simp; omega) ?_) | fail)
          intro v' w5 ho5 hg5 hh5
          have HB5 : Hid (Below W.heap.size W w5) := (HA3.out.below.alloc (by omega) _).grown hg5 (by simp; omega) (fun q e => by have := (World.ownsRow.lt HA3.out.own q e).1; omega)
          have HA5 : Hid (AddSt W w5 t u v' (done ++ [(ll, sl)]) (vals ++ [(.slice la1 ll.length lc1, .slice sa1 sl.length sc1)]) true) := HA3.out.grow id (fun q hq hne => (hg5.block q (by simp; omega) hne).trans (heap_alloc_old w3 _ hq)) HB5.out (by exact ho5) rfl (ent_one HL1.out (.inl HS1.out))
          clear ho5 hg5 hh5 HA3 HB5
          go_wp2
          go_roundw
          case rel => exact ⟨k + 1, done ++ [(ll, sl)], _, true, by omega, by go_num, rfl, by simp; omega, (fun h => by cases h), HA5.out, HE5.out⟩
          case measure => simp [intOf]; omega
      | false =>
        rcases h3 with rfl | rfl | rfl
        · have HE5 : Hid ((done ++ [(ll, sl)]) ++ addBo l (t, u) false (bs.drop (k + 1)) = addB l (t, u) bs) := by
            have h1 := HE2.out
            have h2 : cmpLabs ll l < 0 := by rw [HC.out]; decide
            exact hide (by simpa [addBo, addB, h2] using h1)
          clear HE2
          go_wp2_with (first | (at_builtin; refine wpList_append_heir _ rfl (.tmp 33) (.tmp 38) 22 rfl (W.heap.size + 1) 37 i0 (.agg #[.slice none 0 0, .slice none 0 0]) 2 48 Try.underlying22 hi hz0 hz1 hz2 rfl (by decide) u7 done.length (serCells vals) rfl (own_alloc HA3.out.own _) ⟨w3.heap.size, 0, none⟩ 1 1 [.slice la1 ll.length lc1, .slice sa1 sl.length sc1] rfl rfl (cells_new w3 _ _) (one_two rfl rfl) (by unfold maxLen; omega) (by omega) (by simp; omega) ?_) | fail)
          intro v' w5 ho5 hg5 hh5
          have HB5 : Hid (Below W.heap.size W w5) := (HA3.out.below.alloc (by omega) _).grown hg5 (by simp; omega) (fun q e => by have := (World.ownsRow.lt HA3.out.own q e).1; omega)
          have HA5 : Hid (AddSt W w5 t u v' (done ++ [(ll, sl)]) (vals ++ [(.slice la1 ll.length lc1, .slice sa1 sl.length sc1)]) false) := HA3.out.grow id (fun q hq hne => (hg5.block q (by simp; omega) hne).trans (heap_alloc_old w3 _ hq)) HB5.out (by exact ho5) rfl (ent_one HL1.out (.inl HS1.out))
          clear ho5 hg5 hh5 HA3 HB5
          go_wp2
          go_roundw
          case rel => exact ⟨k + 1, done ++ [(ll, sl)], _, false, by omega, by go_num, rfl, by simp; omega, (fun _ => by have := HDf.out (by trivial); simp; omega), HA5.out, HE5.out⟩
          case measure => simp [intOf]; omega
        · have hE0 : done ++ ((l, addS (t, u) sl) :: bs.drop (k + 1)) = addB l (t, u) bs := by
            have h1 := HE2.out
            simpa [addBo, addB, HC.out] using h1
          have HE5 : Hid ((done ++ [(l, addS (t, u) sl)]) ++ addBo l (t, u) true (bs.drop (k + 1)) = addB l (t, u) bs) := hide (by simpa [addBo] using hE0)
          clear HE2 hE0
          go_wp2
          go_loopw [11, 12, 13, 14] (fun mv put i _ wr => ∃ (q : Nat) (m : List (Int × Nat)) (pb : Bool), q ≤ sl.length ∧ i = .int .i64 q ∧ put = .bool pb ∧ m.length ≤ 2 * q ∧ Hid (wr.ownsRow (W.heap.size + 1) 33 2 mv m.length (samCells m)) ∧ Hid (Rng m) ∧ Hid (AddSt W wr t u u7 done vals false) ∧ Hid (m ++ addGo (t, u) pb (sl.drop q) = addS (t, u) sl) ∧ Hid (pb = true → ∀ y ∈ sl.drop q, t < y.1)) (fun _ _ i _ _ => sl.length - (intOf i).toNat)
          case atStart => exact ⟨0, [], false, Nat.zero_le _, rfl, rfl, by simp, World.ownsRow_nil _ _ _ _, (fun x h => by cases h), HA3.out, rfl, fun h => by cases h⟩
          case round =>
            clear HA3 c1 c2
            obtain ⟨q, m, pb, hq, rfl, rfl, hml, HM, HRm, HA, HG, HP⟩ := hrel
            have hws := HA.out.below.size
            have c1 := (HA.out.below.cell (p := ⟨b1, o1 + k * 2, none⟩) hb1).trans p1
            have c2 := (HA.out.below.cell (p := ⟨b1, o1 + k * 2 + 1, none⟩) hb1).trans p2
            obtain ⟨x0, x1, hbx⟩ := HA.out.cells
            by_cases hql : q < sl.length
            · obtain ⟨⟨tx, bx⟩, hy⟩ : ∃ x, sl[q]? = some x := ⟨_, List.getElem?_eq_getElem hql⟩
              obtain ⟨e1, f1, rfl, y0, y1⟩ := samGet (HS1.out.below HA.out.below (Nat.le_refl _)) hy
              have hrx : -9223372036854775808 ≤ tx ∧ tx ≤ 9223372036854775807 ∧ bx ≤ 18446744073709551615 := HS1.out.choose_spec.choose_spec.2.2.1 (tx, bx) (List.mem_of_getElem? hy)
              have hnx := addGo_next hy HG.out HP.out HSo1.out
              simp only at y0 y1 hnx
              have HNx := hide hnx
              have HRx := hide hrx
              clear hy hnx hrx HG HP
              have z0 : (wr.alloc (.cells #[.int .i64 tx, .int .u64 bx] 33)).cell? ⟨wr.heap.size, 0, none⟩ = some (.int .i64 tx) := World.cell?_alloc_new _ _ _ 0
              have z1 : (wr.alloc (.cells #[.int .i64 tx, .int .u64 bx] 33)).cell? ⟨wr.heap.size, 1, none⟩ = some (.int .u64 bx) := World.cell?_alloc_new _ _ _ 1
              have k0 := (World.cell?_alloc_old wr (.cells #[.int .i64 tx, .int .u64 bx] 33) ⟨W.heap.size, 0, none⟩ (by show W.heap.size ≠ wr.heap.size; omega)).trans x0
              have k1 := (World.cell?_alloc_old wr (.cells #[.int .i64 tx, .int .u64 bx] 33) ⟨W.heap.size, 1, none⟩ (by show W.heap.size ≠ wr.heap.size; omega)).trans x1
              have HML := hide (World.ownsRow.lt HM.out)
              cases pb with
              | true =>
                obtain ⟨hlt2, hE3⟩ := HNx.out.1 rfl
                have HE3 := hide hE3
                have HP3 : Hid (∀ y ∈ sl.drop (q + 1), t < y.1) := HNx.out.2.2.2.2 (by omega)
                have hne : ¬ tx = t := by omega
                clear hE3 HNx
                go_wp2_with (first | (at_builtin; refine wpList_append_heir _ rfl (.tmp 95) (.tmp 97) 34 rfl (W.heap.size + 1) 33 i1 (.agg #[.int .i64 0, .int .u64 0]) 2 16 Try.underlying34 hi1 hy0 hy1 hy2 rfl (by decide) u11 m.length (samCells m) rfl (own_alloc (own_alloc HM.out _) _) ⟨wr.heap.size + 1, 0, none⟩ 1 1 [.int .i64 tx, .int .u64 bx] rfl rfl (by have := cells_new (wr.alloc (.cells #[.int .i64 tx, .int .u64 bx] 33)) [.int .i64 tx, .int .u64 bx] 33; simpa using this) (one_two rfl rfl) (by unfold maxLen; omega) (by omega) (by simp; omega) ?_) | fail)
                intro v5 w5 ho5 hg5 hh5
                have HM5 : Hid (w5.ownsRow (W.heap.size + 1) 33 2 v5 (m ++ [(tx, bx)]).length (samCells (m ++ [(tx, bx)]))) := by rw [samCells_snoc, List.length_append]; exact ho5
                have hb5 : Below W.heap.size W w5 := ((HA.out.below.alloc (by omega) _).alloc (by simp; omega) _).grown hg5 (by simp; omega) (fun k e => by have := (HML.out k e).1; omega)
                have HA5 := hide (HA.out.other HM.out (fun k hk hne => (hg5.block k (by simp; omega) hne).trans ((heap_alloc_old _ _ (by simp; omega)).trans (heap_alloc_old wr _ hk))) hb5)
                have HR5 := hide (HRm.out.snoc (x := (tx, bx)) HRx.out)
                clear ho5 hg5 hh5 hb5 HM HA HRm HML
                go_wp2
                go_roundw
                case rel => exact ⟨q + 1, m ++ [(tx, bx)], true, by omega, by go_num, rfl, by simp; omega, HM5.out, HR5.out, HA5.out, HE3.out, fun _ => HP3.out⟩
                case measure => simp [intOf]; omega
              | false =>
                by_cases hlt2 : t < tx
                · have HE3 := hide (HNx.out.2.1 rfl hlt2)
                  have HP3 : Hid (∀ y ∈ sl.drop (q + 1), t < y.1) := HNx.out.2.2.2.2 (by omega)
                  have hne : ¬ tx = t := by omega
                  clear HNx
                  go_wp2_with (first | (at_builtin; refine wpList_append_heir _ rfl (.tmp 80) (.tmp 82) 34 rfl (W.heap.size + 1) 33 i1 (.agg #[.int .i64 0, .int .u64 0]) 2 16 Try.underlying34 hi1 hy0 hy1 hy2 rfl (by decide) u11 m.length (samCells m) rfl (own_alloc (own_alloc HM.out _) _) ⟨wr.heap.size + 1, 0, none⟩ 1 1 [.int .i64 t, .int .u64 u] rfl rfl (by have := cells_new (wr.alloc (.cells #[.int .i64 tx, .int .u64 bx] 33)) [.int .i64 t, .int .u64 u] 33; simpa using this) (one_two rfl rfl) (by unfold maxLen; omega) (by omega) (by simp; omega) ?_) | fail)
                  intro v4 w4 ho4 hg4 hh4
                  have HM4 : Hid (w4.ownsRow (W.heap.size + 1) 33 2 v4 (m ++ [(t, u)]).length (samCells (m ++ [(t, u)]))) := by rw [samCells_snoc, List.length_append]; exact ho4
                  have hb4 : Below W.heap.size W w4 := ((HA.out.below.alloc (by omega) _).alloc (by simp; omega) _).grown hg4 (by simp; omega) (fun k e => by have := (HML.out k e).1; omega)
                  have hs4 : wr.heap.size + 2 ≤ w4.heap.size := by have := hg4.size; simpa using this
                  have hkk : ∀ k, k < wr.heap.size + 1 → some k ≠ u11.ownBlock → w4.heap[k]? = (wr.alloc (.cells #[.int .i64 tx, .int .u64 bx] 33)).heap[k]? := fun k hk hne => (hg4.block k (by simp; omega) hne).trans (heap_alloc_old _ _ (by simp; omega))
                  have hxo : some wr.heap.size ≠ u11.ownBlock := fun e => by have := (HML.out _ e.symm).2; omega
                  have hbo : some W.heap.size ≠ u11.ownBlock := fun e => by have := (HML.out _ e.symm).1; omega
                  have d0 := (World.cell?_of_block (a := ⟨wr.heap.size, 0, none⟩) (hkk wr.heap.size (by omega) hxo)).trans z0
                  have d1 := (World.cell?_of_block (a := ⟨wr.heap.size, 1, none⟩) (hkk wr.heap.size (by omega) hxo)).trans z1
                  have d2 := (World.cell?_of_block (a := ⟨W.heap.size, 0, none⟩) (hkk W.heap.size (by omega) hbo)).trans k0
                  have d3 := (World.cell?_of_block (a := ⟨W.heap.size, 1, none⟩) (hkk W.heap.size (by omega) hbo)).trans k1
                  have HA4 := hide (HA.out.other HM.out (fun k hk hne => (hkk k (by omega) hne).trans (heap_alloc_old wr _ hk)) hb4)
                  have HR4 := hide (HRm.out.snoc (x := (t, u)) HRg.out)
                  have hml4 : (m ++ [(t, u)]).length ≤ 2 * q + 1 := by simp; omega
                  have HML4 := hide (World.ownsRow.lt HM4.out)
                  clear ho4 hg4 hh4 hb4 HM HA HRm HML hkk hxo hbo z0 z1 k0 k1
                  generalize hm2 : m ++ [(t, u)] = m2 at *
                  clear hm2
                  go_wp2_with (first | (at_builtin; refine wpList_append_heir _ rfl (.tmp 95) (.tmp 97) 34 rfl (W.heap.size + 1) 33 i1 (.agg #[.int .i64 0, .int .u64 0]) 2 16 Try.underlying34 hi1 hy0 hy1 hy2 rfl (by decide) v4 m2.length (samCells m2) rfl (own_alloc HM4.out _) ⟨w4.heap.size, 0, none⟩ 1 1 [.int .i64 tx, .int .u64 bx] rfl rfl (cells_new w4 [.int .i64 tx, .int .u64 bx] 33) (one_two rfl rfl) (by unfold maxLen; omega) (by omega) (by simp; omega) ?_) | fail)
                  intro v5 w5 ho5 hg5 hh5
                  have HM5 : Hid (w5.ownsRow (W.heap.size + 1) 33 2 v5 (m2 ++ [(tx, bx)]).length (samCells (m2 ++ [(tx, bx)]))) := by rw [samCells_snoc, List.length_append]; exact ho5
                  have hb5 : Below W.heap.size W w5 := (HA4.out.below.alloc (by omega) _).grown hg5 (by simp; omega) (fun k e => by have := (HML4.out k e).1; omega)
                  have HA5 := hide (HA4.out.other HM4.out (fun k hk hne => (hg5.block k (by simp; omega) hne).trans (heap_alloc_old w4 _ hk)) hb5)
                  have HR5 := hide (HR4.out.snoc (x := (tx, bx)) HRx.out)
                  clear ho5 hg5 hh5 hb5 HM4 HA4 HR4 HML4
                  go_wp2
                  go_roundw
                  case rel => exact ⟨q + 1, m2 ++ [(tx, bx)], true, by omega, by go_num, rfl, by simp; omega, HM5.out, HR5.out, HA5.out, HE3.out, fun _ => HP3.out⟩
                  case measure => simp [intOf]; omega
                · by_cases heq : tx = t
                  · subst heq
                    have hE3 := HNx.out.2.2.1 rfl rfl
                    have HP3 : Hid (∀ y ∈ sl.drop (q + 1), tx < y.1) := HNx.out.2.2.2.2 (Int.le_refl _)
                    by_cases hbu : bx < u
                    · rw [if_pos hbu] at hE3
                      have HE3 := hide hE3
                      have hbi : (bx : Int) < (u : Int) := by omega
                      clear hE3 HNx
                      go_wp2_with (first | (at_builtin; refine wpList_append_heir _ rfl (.tmp 95) (.tmp 97) 34 rfl (W.heap.size + 1) 33 i1 (.agg #[.int .i64 0, .int .u64 0]) 2 16 Try.underlying34 hi1 hy0 hy1 hy2 rfl (by decide) u11 m.length (samCells m) rfl (own_alloc (own_alloc HM.out _) _) ⟨wr.heap.size + 1, 0, none⟩ 1 1 [.int .i64 tx, .int .u64 u] rfl rfl (by have := cells_new (wr.alloc (.cells #[.int .i64 tx, .int .u64 u] 33)) [.int .i64 tx, .int .u64 u] 33; simpa using this) (one_two rfl rfl) (by unfold maxLen; omega) (by omega) (by simp; omega) ?_) | fail)
                      intro v5 w5 ho5 hg5 hh5
                      have HM5 : Hid (w5.ownsRow (W.heap.size + 1) 33 2 v5 (m ++ [(tx, u)]).length (samCells (m ++ [(tx, u)]))) := by rw [samCells_snoc, List.length_append]; exact ho5
                      have hb5 : Below W.heap.size W w5 := ((HA.out.below.alloc (by omega) _).alloc (by simp; omega) _).grown hg5 (by simp; omega) (fun k e => by have := (HML.out k e).1; omega)
                      have HA5 := hide (HA.out.other HM.out (fun k hk hne => (hg5.block k (by simp; omega) hne).trans ((heap_alloc_old _ _ (by simp; omega)).trans (heap_alloc_old wr _ hk))) hb5)
                      have HR5 := hide (HRm.out.snoc (x := (tx, u)) HRg.out)
                      clear ho5 hg5 hh5 hb5 HM HA HRm HML
                      go_wp2
                      go_roundw
                      case rel => exact ⟨q + 1, m ++ [(tx, u)], true, by omega, by go_num, rfl, by simp; omega, HM5.out, HR5.out, HA5.out, HE3.out, fun _ => HP3.out⟩
                      case measure => simp [intOf]; omega
                    · rw [if_neg hbu] at hE3
                      have HE3 := hide hE3
                      have hbi : ¬ (bx : Int) < (u : Int) := by omega
                      clear hE3 HNx
                      go_wp2_with (first | (at_builtin; refine wpList_append_heir _ rfl (.tmp 95) (.tmp 97) 34 rfl (W.heap.size + 1) 33 i1 (.agg #[.int .i64 0, .int .u64 0]) 2 16 Try.underlying34 hi1 hy0 hy1 hy2 rfl (by decide) u11 m.length (samCells m) rfl (own_alloc (own_alloc HM.out _) _) ⟨wr.heap.size + 1, 0, none⟩ 1 1 [.int .i64 tx, .int .u64 bx] rfl rfl (by have := cells_new (wr.alloc (.cells #[.int .i64 tx, .int .u64 bx] 33)) [.int .i64 tx, .int .u64 bx] 33; simpa using this) (one_two rfl rfl) (by unfold maxLen; omega) (by omega) (by simp; omega) ?_) | fail)
                      intro v5 w5 ho5 hg5 hh5
                      have HM5 : Hid (w5.ownsRow (W.heap.size + 1) 33 2 v5 (m ++ [(tx, bx)]).length (samCells (m ++ [(tx, bx)]))) := by rw [samCells_snoc, List.length_append]; exact ho5
                      have hb5 : Below W.heap.size W w5 := ((HA.out.below.alloc (by omega) _).alloc (by simp; omega) _).grown hg5 (by simp; omega) (fun k e => by have := (HML.out k e).1; omega)
                      have HA5 := hide (HA.out.other HM.out (fun k hk hne => (hg5.block k (by simp; omega) hne).trans ((heap_alloc_old _ _ (by simp; omega)).trans (heap_alloc_old wr _ hk))) hb5)
                      have HR5 := hide (HRm.out.snoc (x := (tx, bx)) HRx.out)
                      clear ho5 hg5 hh5 hb5 HM HA HRm HML
                      go_wp2
                      go_roundw
                      case rel => exact ⟨q + 1, m ++ [(tx, bx)], true, by omega, by go_num, rfl, by simp; omega, HM5.out, HR5.out, HA5.out, HE3.out, fun _ => HP3.out⟩
                      case measure => simp [intOf]; omega
                  · have HE3 := hide (HNx.out.2.2.2.1 rfl (by omega))
                    clear HNx
                    go_wp2_with (first | (at_builtin; refine wpList_append_heir _ rfl (.tmp 95) (.tmp 97) 34 rfl (W.heap.size + 1) 33 i1 (.agg #[.int .i64 0, .int .u64 0]) 2 16 Try.underlying34 hi1 hy0 hy1 hy2 rfl (by decide) u11 m.length (samCells m) rfl (own_alloc (own_alloc HM.out _) _) ⟨wr.heap.size + 1, 0, none⟩ 1 1 [.int .i64 tx, .int .u64 bx] rfl rfl (by have := cells_new (wr.alloc (.cells #[.int .i64 tx, .int .u64 bx] 33)) [.int .i64 tx, .int .u64 bx] 33; simpa using this) (one_two rfl rfl) (by unfold maxLen; omega) (by omega) (by simp; omega) ?_) | fail)
                    intro v5 w5 ho5 hg5 hh5
                    have HM5 : Hid (w5.ownsRow (W.heap.size + 1) 33 2 v5 (m ++ [(tx, bx)]).length (samCells (m ++ [(tx, bx)]))) := by rw [samCells_snoc, List.length_append]; exact ho5
                    have hb5 : Below W.heap.size W w5 := ((HA.out.below.alloc (by omega) _).alloc (by simp; omega) _).grown hg5 (by simp; omega) (fun k e => by have := (HML.out k e).1; omega)
                    have HA5 := hide (HA.out.other HM.out (fun k hk hne => (hg5.block k (by simp; omega) hne).trans ((heap_alloc_old _ _ (by simp; omega)).trans (heap_alloc_old wr _ hk))) hb5)
                    have HR5 := hide (HRm.out.snoc (x := (tx, bx)) HRx.out)
                    clear ho5 hg5 hh5 hb5 HM HA HRm HML
                    go_wp2
                    go_roundw
                    case rel => exact ⟨q + 1, m ++ [(tx, bx)], false, by omega, by go_num, rfl, by simp; omega, HM5.out, HR5.out, HA5.out, HE3.out, fun h => by cases h⟩
                    case measure => simp [intOf]; omega
            · obtain ⟨a11, c11, rfl⟩ := own_shape HM.out
              have HML := hide (World.ownsRow.lt HM.out)
              have hdn : sl.drop q = [] := List.drop_eq_nil_of_le (by omega)
              cases pb with
              | true =>
                have hme : m = addS (t, u) sl := by have h := HG.out; rw [hdn] at h; simpa [addGo] using h
                subst hme
                clear HG HP hdn
                go_wp2_with (first | (at_builtin; refine wpList_append_heir _ rfl (.tmp 105) (.tmp 109) 22 rfl (W.heap.size + 1) 37 i0 (.agg #[.slice none 0 0, .slice none 0 0]) 2 48 Try.underlying22 hi hz0 hz1 hz2 rfl (by decide) u7 done.length (serCells vals) rfl (own_alloc HA.out.own _) ⟨wr.heap.size, 0, none⟩ 1 1 [.slice la l.length lc, .slice a11 (addS (t, u) sl).length c11] rfl rfl (cells_new wr _ _) (one_two rfl rfl) (by unfold maxLen; omega) (by omega) (by simp; omega) ?_) | fail)
                intro v5 w5 ho5 hg5 hh5
                have HB5 : Hid (Below W.heap.size W w5) := (HA.out.below.alloc (by omega) _).grown hg5 (by simp; omega) (fun q e => by have := (World.ownsRow.lt HA.out.own q e).1; omega)
                have HM5 : Hid (w5.ownsRow (W.heap.size + 1) 33 2 (.slice a11 (addS (t, u) sl).length c11) (addS (t, u) sl).length (samCells (addS (t, u) sl))) := own_kept HM.out fun k e => (hg5.block k (by have := (HML.out k e).2; simp; omega) (fun e' => own_types HM.out HA.out.own (by decide) k e e'.symm)).trans (heap_alloc_old wr _ (HML.out k e).2)
                have HA5 : Hid (AddSt W w5 t u v5 (done ++ [(l, addS (t, u) sl)]) (vals ++ [(.slice la l.length lc, .slice a11 (addS (t, u) sl).length c11)]) true) := HA.out.grow (fun h => by cases h) (fun q hq hne => (hg5.block q (by simp; omega) hne).trans (heap_alloc_old wr _ hq)) HB5.out (by exact ho5) rfl (ent_one HL.out (.inr ⟨rfl, HRm.out, HM5.out⟩))
                clear ho5 hg5 hh5 HA HB5 HM HML HM5
                go_wp2
                go_roundw
                case rel => exact ⟨k + 1, done ++ [(l, addS (t, u) sl)], _, true, by omega, by go_num, rfl, by simp; omega, (fun h => by cases h), HA5.out, HE5.out⟩
                case measure => simp [intOf]; omega
              | false =>
                have hme : m ++ [(t, u)] = addS (t, u) sl := by have h := HG.out; rw [hdn] at h; simpa [addGo, addS] using h
                have HMe := hide hme
                clear HG HP hdn hme
                go_wp2_with (first | (at_builtin; refine wpList_append_heir _ rfl (.tmp 101) (.tmp 103) 34 rfl (W.heap.size + 1) 33 i1 (.agg #[.int .i64 0, .int .u64 0]) 2 16 Try.underlying34 hi1 hy0 hy1 hy2 rfl (by decide) (.slice a11 m.length c11) m.length (samCells m) rfl (own_alloc HM.out _) ⟨wr.heap.size, 0, none⟩ 1 1 [.int .i64 t, .int .u64 u] rfl rfl (cells_new wr _ _) (one_two rfl rfl) (by unfold maxLen; omega) (by omega) (by simp; omega) ?_) | fail)
                intro v4 w4 ho4 hg4 hh4
                have HM4 : Hid (w4.ownsRow (W.heap.size + 1) 33 2 v4 (addS (t, u) sl).length (samCells (addS (t, u) sl))) := by rw [← HMe.out, samCells_snoc, List.length_append]; exact ho4
                have hb4 : Below W.heap.size W w4 := (HA.out.below.alloc (by omega) _).grown hg4 (by simp; omega) (fun k e => by have := (HML.out k e).1; omega)
                have hs4 : wr.heap.size + 1 ≤ w4.heap.size := by have := hg4.size; simpa using this
                have HA4 := hide (HA.out.other HM.out (fun k hk hne => (hg4.block k (by simp; omega) hne).trans (heap_alloc_old wr _ hk)) hb4)
                have HR4 : Hid (Rng (addS (t, u) sl)) := by rw [← HMe.out]; exact HRm.out.snoc (x := (t, u)) HRg.out
                obtain ⟨a12, c12, rfl⟩ := own_shape HM4.out
                have HML4 := hide (World.ownsRow.lt HM4.out)
                clear ho4 hg4 hh4 hb4 HM HA HRm HML
                go_wp2_with (first | (at_builtin; refine wpList_append_heir _ rfl (.tmp 105) (.tmp 109) 22 rfl (W.heap.size + 1) 37 i0 (.agg #[.slice none 0 0, .slice none 0 0]) 2 48 Try.underlying22 hi hz0 hz1 hz2 rfl (by decide) u7 done.length (serCells vals) rfl (own_alloc HA4.out.own _) ⟨w4.heap.size, 0, none⟩ 1 1 [.slice la l.length lc, .slice a12 (addS (t, u) sl).length c12] rfl rfl (cells_new w4 _ _) (one_two rfl rfl) (by unfold maxLen; omega) (by omega) (by simp; omega) ?_) | fail)
                intro v5 w5 ho5 hg5 hh5
                have HB5 : Hid (Below W.heap.size W w5) := (HA4.out.below.alloc (by omega) _).grown hg5 (by simp; omega) (fun q e => by have := (World.ownsRow.lt HA4.out.own q e).1; omega)
                have HM5 : Hid (w5.ownsRow (W.heap.size + 1) 33 2 (.slice a12 (addS (t, u) sl).length c12) (addS (t, u) sl).length (samCells (addS (t, u) sl))) := own_kept HM4.out fun k e => (hg5.block k (by have := (HML4.out k e).2; simp; omega) (fun e' => own_types HM4.out HA4.out.own (by decide) k e e'.symm)).trans (heap_alloc_old w4 _ (HML4.out k e).2)
                have HA5 : Hid (AddSt W w5 t u v5 (done ++ [(l, addS (t, u) sl)]) (vals ++ [(.slice la l.length lc, .slice a12 (addS (t, u) sl).length c12)]) true) := HA4.out.grow (fun h => by cases h) (fun q hq hne => (hg5.block q (by simp; omega) hne).trans (heap_alloc_old w4 _ hq)) HB5.out (by exact ho5) rfl (ent_one HL.out (.inr ⟨rfl, HR4.out, HM5.out⟩))
                clear ho5 hg5 hh5 HA4 HB5 HM4 HML4 HM5
                go_wp2
                go_roundw
                case rel => exact ⟨k + 1, done ++ [(l, addS (t, u) sl)], _, true, by omega, by go_num, rfl, by simp; omega, (fun h => by cases h), HA5.out, HE5.out⟩
                case measure => simp [intOf]; omega
        · have hE0 : done ++ ((l, [(t, u)]) :: (ll, sl) :: bs.drop (k + 1)) = addB l (t, u) bs := by
            have h1 := HE2.out
            simpa [addBo, addB, HC.out] using h1
          have HE5 : Hid ((done ++ [(l, [(t, u)]), (ll, sl)]) ++ addBo l (t, u) true (bs.drop (k + 1)) = addB l (t, u) bs) := hide (by simpa [addBo] using hE0)
          obtain ⟨x0, x1, hbx⟩ := HA3.out.cells
          have hb3 : b1 < w3.heap.size := by omega
          have HOL := hide (World.ownsRow.lt HA3.out.own)
          have hdk : done.length ≤ k := HDf.out rfl
          clear HE2 hE0
          go_wp2
          as_aux_lemma =>
            go_region_held3 (fun w' => w'.cell? ⟨W.heap.size, 0, none⟩ = some (.int .i64 t) ∧ w'.cell? ⟨W.heap.size, 1, none⟩ = some (.int .u64 u) ∧ w'.cell? ⟨b1, o1 + k * 2, none⟩ = some (.slice la1 ll.length lc1) ∧ w'.cell? ⟨b1, o1 + k * 2 + 1, none⟩ = some (.slice sa1 sl.length sc1)) (first | go_keep | (go_split_ands; refine ⟨?_, ?_, ?_, ?_⟩ <;> (rw [hgrow.cell_far _ (by simp; omega) (by intro e; have h8 := (HOL.out _ e.symm).1; simp at h8; omega)]; first | assumption | (rw [World.cell?_alloc_old _ _ _ (by simp; omega), World.cell?_alloc_old _ _ _ (by simp; omega)]; assumption)))) (first | (refine step_append_lies _ (by rfl) (.tmp 42) (.tmp 51) 22 (by rfl) (W.heap.size + 1) 37 i0 (.agg #[.slice none 0 0, .slice none 0 0]) 2 48 Try.underlying22 hi hz0 hz1 hz2 rfl (by decide) u7 done.length (serCells vals) (by rfl) (own_alloc (own_alloc HA3.out.own _) _) ⟨w3.heap.size + 1, 0, none⟩ 2 2 [.slice la l.length lc, .slice (some ⟨w3.heap.size, 0, none⟩) 1 1, .slice la1 ll.length lc1, .slice sa1 sl.length sc1] (by rfl) rfl (by have h9 := cells_new (w3.alloc (.cells #[.int .i64 t, .int .u64 u] 33)) [.slice la l.length lc, .slice (some ⟨w3.heap.size, 0, none⟩) 1 1, .slice la1 ll.length lc1, .slice sa1 sl.length sc1] 37; simpa using h9) (by intro x hx; simp at hx; rcases hx with rfl | rfl | rfl | rfl <;> rfl) (by decide) (by unfold maxLen; omega) (by omega) (by simp; omega) (w3.heap.size + 1 + 1) (by simp) ?_; intro g2 cap2 w5 hown5 hgrow hat hgl5) | fail)
            all_goals
              have HB5 : Hid (Below W.heap.size W w5) := (((HA3.out.below.alloc (by omega) _).alloc (by simp; omega) _).drew).grown hgrow (by simp; omega) (fun q e => by have := (HOL.out q e).1; omega)
              have hno : some w3.heap.size ≠ u7.ownBlock := fun e => by have := (HOL.out _ e.symm).2; omega
              have HM5 : Hid (w5.ownsRow (W.heap.size + 1) 33 2 (.slice (some ⟨w3.heap.size, 0, none⟩) 1 1) [(t, u)].length (samCells [(t, u)])) := own_kept (World.ownsRow_lit (base := W.heap.size + 1) (e := 33) (size := 2) w3 #[.int .i64 t, .int .u64 u] 1 (by omega) (by decide) rfl) fun k e => by
                have e2 : w3.heap.size = k := Option.some.inj e
                subst e2
                exact (hgrow.block _ (by simp; omega) hno).trans (heap_alloc_old _ _ (by simp))
              have HA5 : Hid (AddSt W w5 t u (.slice (some ⟨g2, 0, none⟩) (done.length + 2) cap2) (done ++ [(l, [(t, u)]), (ll, sl)]) (vals ++ [(.slice la l.length lc, .slice (some ⟨w3.heap.size, 0, none⟩) 1 1), (.slice la1 ll.length lc1, .slice sa1 sl.length sc1)]) true) := HA3.out.grow (fun h => by cases h) (fun q hq hne => (hgrow.block q (by simp; omega) hne).trans ((heap_alloc_old _ _ (by simp; omega)).trans (heap_alloc_old w3 _ hq))) HB5.out (by exact hown5) rfl (fun i p x hp hx => by
                match i, hp, hx with
                | 0, hp, hx => simp at hp hx; subst hp; subst hx; exact ⟨HL.out, .inr ⟨rfl, (fun x hx => by rw [List.mem_singleton.1 hx]; exact HRg.out), HM5.out⟩⟩
                | 1, hp, hx => simp at hp hx; subst hp; subst hx; exact ⟨HL1.out, .inl HS1.out⟩
                | i + 2, hp, _ => simp at hp)
              clear hown5 hgrow hat hgl5 HA3 HB5 HM5
              go_wp2
              go_roundw
              case rel => exact ⟨k + 1, done ++ [(l, [(t, u)]), (ll, sl)], _, true, by omega, by go_num, rfl, by simp; omega, (fun h => by cases h), HA5.out, HE5.out⟩
              case measure => simp [intOf]; omega
    · obtain rfl : k = bs.length := by omega
      have hdn : bs.drop bs.length = [] := List.drop_eq_nil_of_le (Nat.le_refl _)
      cases ib with
      | true =>
        have hme : done = addB l (t, u) bs := by have h := HE.out; rw [hdn] at h; simpa [addBo] using h
        subst hme
        clear HE hdn
        go_wp2
        go_ret
        exact ⟨_, rfl, HA.out.batchAt, HA.out.below⟩
      | false =>
        have hme : done ++ [(l, [(t, u)])] = addB l (t, u) bs := by have h := HE.out; rw [hdn] at h; simpa [addBo, addB] using h
        have HMe := hide hme
        obtain ⟨x0, x1, hbx⟩ := HA.out.cells
        clear HE hdn hme
        go_wp2_with (first | (at_builtin; refine wpList_append_heir _ rfl (.tmp 113) (.tmp 118) 22 rfl (W.heap.size + 1) 37 i0 (.agg #[.slice none 0 0, .slice none 0 0]) 2 48 Try.underlying22 hi hz0 hz1 hz2 rfl (by decide) u7 done.length (serCells vals) rfl (own_alloc (own_alloc HA.out.own _) _) ⟨wr.heap.size + 1, 0, none⟩ 1 1 [.slice la l.length lc, .slice (some ⟨wr.heap.size, 0, none⟩) 1 1] rfl rfl (by have := cells_new (wr.alloc (.cells #[.int .i64 t, .int .u64 u] 33)) [.slice la l.length lc, .slice (some ⟨wr.heap.size, 0, none⟩) 1 1] 37; simpa using this) (one_two rfl rfl) (by unfold maxLen; omega) (by omega) (by simp; omega) ?_) | fail)
        intro v5 w5 ho5 hg5 hh5
        have HB5 : Hid (Below W.heap.size W w5) := ((HA.out.below.alloc (by omega) _).alloc (by simp; omega) _).grown hg5 (by simp; omega) (fun q e => by have := (World.ownsRow.lt HA.out.own q e).1; omega)
        have hno : some wr.heap.size ≠ u7.ownBlock := fun e => by have := (World.ownsRow.lt HA.out.own _ e.symm).2; omega
        have HM5 : Hid (w5.ownsRow (W.heap.size + 1) 33 2 (.slice (some ⟨wr.heap.size, 0, none⟩) 1 1) [(t, u)].length (samCells [(t, u)])) := own_kept (World.ownsRow_lit (base := W.heap.size + 1) (e := 33) (size := 2) wr #[.int .i64 t, .int .u64 u] 1 (by omega) (by decide) rfl) fun k e => by
          have e2 : wr.heap.size = k := Option.some.inj e
          subst e2
          exact (hg5.block _ (by simp; omega) hno).trans (heap_alloc_old _ _ (by simp))
        have HA5 : Hid (AddSt W w5 t u v5 (done ++ [(l, [(t, u)])]) (vals ++ [(.slice la l.length lc, .slice (some ⟨wr.heap.size, 0, none⟩) 1 1)]) true) := HA.out.grow (fun h => by cases h) (fun q hq hne => (hg5.block q (by simp; omega) hne).trans ((heap_alloc_old _ _ (by simp; omega)).trans (heap_alloc_old wr _ hq))) HB5.out (by exact ho5) rfl (ent_one HL.out (.inr ⟨rfl, (fun x hx => by rw [List.mem_singleton.1 hx]; exact HRg.out), HM5.out⟩))
        have HF : Hid (BatchAt w5 w5.heap.size v5 (addB l (t, u) bs) ∧ Below W.heap.size W w5) := by
          rw [← HMe.out]; exact ⟨HA5.out.batchAt, HA5.out.below⟩
        clear ho5 hg5 hh5 HA HB5 HM5 HA5 HMe
        go_wp2
        go_ret
        exact ⟨_, rfl, HF.out⟩
end Go.Proofs.Ytcidgfdiacehmaa

/- The reference's Join. -/
namespace Go.Proofs.Ytcidgfdiacehmaa
open Go.RowKit Go.Lib

/-- A list whose size n samples more have made. -/
def Sz (M : Nat) (cur : List Ser) (n : Nat) : Prop := cur.length ≤ M + n ∧ ∀ s ∈ cur, s.1.length ≤ M ∧ s.2.length ≤ M + n
theorem Sz.add {M n : Nat} {cur : List Ser} {l : List Lab} {s : Int × Nat} (h : Sz M cur n) (hl : l.length ≤ M) : Sz M (addB l s cur) (n + 1) := by
  refine ⟨by have := addB_len l s cur; have := h.1; omega, fun x hx => ?_⟩
  rcases addB_mem hx with e | e | ⟨y, hy, _, e⟩
  · have := h.2 x e; omega
  · rw [e]; exact ⟨hl, by simp; omega⟩
  · rw [e]
    have h1 := addS_len s y.2
    have h2 := (h.2 y hy).2
    exact ⟨hl, by show (addS s y.2).length ≤ _; omega⟩
theorem singles_take {b : List Ser} {k : Nat} {x : Ser} (hx : b[k]? = some x) : singles (b.take (k + 1)) = singles (b.take k) ++ x.2.map fun y => [(x.1, [y])] := by
  rw [List.take_add_one, hx]; simp [singles]
theorem samN_take {b : List Ser} {k : Nat} {x : Ser} (hx : b[k]? = some x) : samN (b.take (k + 1)) = samN (b.take k) + x.2.length := by
  rw [List.take_add_one, hx]; simp [samN]
theorem samN_take_le (b : List Ser) (k : Nat) : samN (b.take k) ≤ samN b := by
  conv => rhs; rw [← List.take_append_drop k b]
  rw [samN_app]; omega
theorem singles_ok {b : List Ser} (h : ∀ s ∈ b, LabelsOk s.1) : ∀ c ∈ singles b, BatchOk c := fun c hc => by
  obtain ⟨s, hs, hc⟩ := List.mem_flatMap.1 hc
  obtain ⟨x, _, rfl⟩ := List.mem_map.1 hc
  exact batchOk_one (h s hs) x
theorem onB {w w' : World} {v : Value} {bs : List Ser} (h : BatchAt w w.heap.size v bs) (hb : Below w.heap.size w w') : BatchAt w' w'.heap.size v bs := (h.below hb (Nat.le_refl _)).wider hb.size

set_option maxRecDepth 100000 in
set_option maxHeartbeats 2000000 in
theorem refJoin_any (W : World) (va vb : Value) (a b : List Ser) (ha : BatchAt W W.heap.size va a) (hb : BatchAt W W.heap.size vb b) (oa : BatchOk a) (ob : BatchOk b) (sa : Sz 100000000 a 0) (sb : Sz 100000000 b 0) (hsn : samN b ≤ 100000000) :
    Calls Try.prog 27 #[va, vb] W fun e w' => ∃ v' j, e = .returned v' ∧ IsJoin [a, b] j ∧ Sz 100000000 j (samN b) ∧ BatchAt w' w'.heap.size v' j ∧ Below W.heap.size W w' := by
  obtain ⟨i0, hi, hz0, hz1, hz2⟩ := info_parts Try.infoSer
  obtain ⟨aa, ac, rfl, -⟩ := id ha
  obtain ⟨ba, bc, rfl, -⟩ := id hb
  obtain ⟨-, as1, hpa, hsa⟩ := batchAt_pairs ha
  have HSA : Hid (a.length = 0 ∨ ∃ ad, aa = some ad ∧ ∀ j u, (serCells as1)[j]? = some u → W.cell? (ad.add j) = some u) := hsa.imp id fun ⟨ad, e1, _, e3⟩ => ⟨ad, e1, e3⟩
  have HPA := hide hpa
  have HB := hide hb
  have HOk : Hid (BatchOk a ∧ BatchOk b) := ⟨oa, ob⟩
  have HSz : Hid (Sz 100000000 a 0 ∧ Sz 100000000 b 0) := ⟨sa, sb⟩
  have hla := sa.1
  have hlb := sb.1
  clear ha hb hpa hsa oa ob sa sb
  go_enter Try.func27, Try.ntmps27
  go_wp2_with (first | (at_builtin; refine wpList_append_spread _ rfl (.tmp 8) (.tmp 9) 22 rfl W.heap.size 37 i0 (.agg #[.slice none 0 0, .slice none 0 0]) 2 48 Try.underlying22 hi hz0 hz1 hz2 rfl (by decide) (.slice none 0 0) 0 [] rfl (World.ownsRow_nil _ _ _ _) aa a.length ac (serCells as1) rfl (pairs_len HPA.out) HSA.out HPA.out.oneCell (by unfold maxLen; omega) (by omega) (Nat.le_refl _) ?_) | fail)
  intro v1 w1 ho1 hg1 hh1
  have HB1 : Hid (Below W.heap.size W w1) := below_grownAt (Below.refl _ _) hg1 (Nat.le_refl _) (fun b e => by cases e)
  have HV1 : Hid (BatchAt w1 w1.heap.size v1 a) := ((HPA.out.below HB1.out (Nat.le_refl _)).wider HB1.out.size).batchAt (base := W.heap.size) (by simpa using ho1)
  have HJ1 : Hid (IsJoin [a] a) := IsJoin.one HOk.out.1
  clear ho1 hg1 hh1 HSA HPA
  go_wp2
  go_loopw [5, 6, 7] (fun ov i _ wr => ∃ (k : Nat) (cur : List Ser), k ≤ b.length ∧ i = .int .i64 k ∧ Hid (BatchAt wr wr.heap.size ov cur) ∧ Hid (IsJoin (a :: singles (b.take k)) cur) ∧ Hid (Sz 100000000 cur (samN (b.take k))) ∧ Hid (Below W.heap.size W wr)) (fun _ i _ _ => b.length - (intOf i).toNat)
  case atStart => exact ⟨0, a, Nat.zero_le _, rfl, HV1.out, HJ1.out, HSz.out.1, HB1.out⟩
  case round =>
    clear HV1 HJ1 HB1
    obtain ⟨k, cur, hk, rfl, HV, HJ, HZ, HW⟩ := hrel
    by_cases hlt : k < b.length
    · obtain ⟨⟨ll, sl⟩, hx⟩ : ∃ x, b[k]? = some x := ⟨_, List.getElem?_eq_getElem hlt⟩
      obtain ⟨b1, o1, la1, lc1, sa1, sc1, rfl, hb1, p1, p2, L1, S1⟩ := HB.out.get hx
      have hbok := ((batchOk_iff b).1 HOk.out.2).1 _ (List.mem_of_getElem? hx)
      have hbz := HSz.out.2.2 _ (List.mem_of_getElem? hx)
      have hst := singles_take hx
      have hnt := samN_take hx
      have hnl := samN_take_le b (k + 1)
      simp only at p1 p2 L1 S1 hbok hbz hst hnt
      have HL1 := hide L1
      have HS1 := hide S1
      have HLo := hide hbok.1
      have HSt := hide hst
      have HNt := hide hnt
      have HSok : Hid (∀ c ∈ singles (b.take k), BatchOk c) := singles_ok fun s hs => (((batchOk_iff b).1 HOk.out.2).1 s (List.mem_of_mem_take hs)).1
      have hn2 : samN (b.take k) + sl.length ≤ 100000000 := by omega
      clear hx L1 S1 hbok hst hnt hnl
      go_wp2
      go_loopw [5, 7] (fun ov i wr => ∃ (q : Nat) (cur : List Ser), q ≤ sl.length ∧ i = .int .i64 q ∧ Hid (BatchAt wr wr.heap.size ov cur) ∧ Hid (IsJoin ((a :: singles (b.take k)) ++ (sl.take q).map fun y => [(ll, [y])]) cur) ∧ Hid (Sz 100000000 cur (samN (b.take k) + q)) ∧ Hid (Below W.heap.size W wr)) (fun _ i _ => sl.length - (intOf i).toNat)
      case atStart => exact ⟨0, cur, Nat.zero_le _, rfl, HV.out, by show IsJoin _ _; simpa using HJ.out, HZ.out, HW.out⟩
      case round =>
        clear HV HJ HZ HW
        obtain ⟨q, cur, hq, rfl, HV, HJ, HZ, HW⟩ := hrel
        have hsw := HW.out.size
        have m1 := (HW.out.cell (p := ⟨b1, o1 + k * 2, none⟩) hb1).trans p1
        have m2 := (HW.out.cell (p := ⟨b1, o1 + k * 2 + 1, none⟩) hb1).trans p2
        by_cases hql : q < sl.length
        · obtain ⟨⟨tx, bx⟩, hy⟩ : ∃ x, sl[q]? = some x := ⟨_, List.getElem?_eq_getElem hql⟩
          have hgx : ∃ b o, sa1 = some ⟨b, o, none⟩ ∧ b < W.heap.size ∧ W.cell? ⟨b, o + q * 2, none⟩ = some (.int .i64 tx) ∧ W.cell? ⟨b, o + q * 2 + 1, none⟩ = some (.int .u64 bx) := by
            obtain ⟨a', c', e, _, _, h2⟩ := HS1.out
            cases e
            rcases h2 with h2 | ⟨b, o, ha, hb, hc⟩
            · rw [h2] at hy; cases hy
            · exact ⟨b, o, ha, hb, hc q _ hy⟩
          obtain ⟨e1, f1, rfl, he1, u1, u2⟩ := hgx
          have y0 := (HW.out.cell (p := ⟨e1, f1 + q * 2, none⟩) he1).trans u1
          have y1 := (HW.out.cell (p := ⟨e1, f1 + q * 2 + 1, none⟩) he1).trans u2
          have hrx : -9223372036854775808 ≤ tx ∧ tx ≤ 9223372036854775807 ∧ bx ≤ 18446744073709551615 := HS1.out.choose_spec.choose_spec.2.2.1 (tx, bx) (List.mem_of_getElem? hy)
          have htk : (sl.take (q + 1)).map (fun y => [(ll, [y])]) = (sl.take q).map (fun y => [(ll, [y])]) ++ [[(ll, [(tx, bx)])]] := by rw [List.take_add_one, hy]; simp
          have HTk := hide htk
          have hcok := (batchOk_iff cur).1 HJ.out.ok
          have hzc := HZ.out
          have CA : Hid (∀ W2, Below wr.heap.size wr W2 → Calls Try.prog 36 #[u5, .slice la1 ll.length lc1, .agg #[.int .i64 tx, .int .u64 bx]] W2 fun e w' => ∃ v', e = .returned v' ∧ BatchAt w' w'.heap.size v' (addB ll (tx, bx) cur) ∧ Below wr.heap.size wr w') := fun W2 h2 =>
            (refAdd_any W2 u5 (.slice la1 ll.length lc1) cur ll tx bx (onB HV.out h2) (((HL1.out.below HW.out (Nat.le_refl _)).below h2 hsw).wider (by have := h2.size; omega)) hrx (fun x hx => ((samplesOk_iff _).1 (hcok.1 x hx).2).2) (by have := hzc.1; omega) (fun x hx => by have := hzc.2 x hx; omega)).mono fun e w' ⟨v', h3, h4, h5⟩ => ⟨v', h3, h4, h2.trans (h5.mono h2.size)⟩
          have HJ2 : Hid (IsJoin ((a :: singles (b.take k)) ++ (sl.take (q + 1)).map fun y => [(ll, [y])]) (addB ll (tx, bx) cur)) := by
            rw [HTk.out, ← List.append_assoc]
            refine HJ.out.group (addB_join HJ.out.ok HLo.out) fun c hc => ?_
            rcases List.mem_append.1 hc with hc | hc
            · rcases List.mem_cons.1 hc with e | hc
              · rw [e]; exact HOk.out.1
              · exact HSok.out c hc
            · obtain ⟨y, _, rfl⟩ := List.mem_map.1 hc
              exact batchOk_one HLo.out y
          have HZ2 : Hid (Sz 100000000 (addB ll (tx, bx) cur) (samN (b.take k) + (q + 1))) := HZ.out.add hbz.1
          have hbw : b1 < wr.heap.size := by omega
          have hew : e1 < wr.heap.size := by omega
          clear hy hrx htk hcok hzc HV HJ HZ u1 u2
          go_wp2
          as_aux_lemma =>
            go_region_held3 (fun w' => w'.cell? ⟨b1, o1 + k * 2, none⟩ = some (.slice la1 ll.length lc1) ∧ w'.cell? ⟨b1, o1 + k * 2 + 1, none⟩ = some (.slice (some ⟨e1, f1, none⟩) sl.length sc1) ∧ w'.cell? ⟨e1, f1 + q * 2, none⟩ = some (.int .i64 tx) ∧ w'.cell? ⟨e1, f1 + q * 2 + 1, none⟩ = some (.int .u64 bx)) (go_keep) (first | (go_at_call 36; refine (CA.out _ (by first | exact (Below.refl _ _).drew | exact Below.refl _ _)).mono ?_; rintro e w6 ⟨v6, rfl, hB6, hb6⟩; have x1 := (hb6.cell (p := ⟨b1, o1 + k * 2, none⟩) hbw).trans m1; have x2 := (hb6.cell (p := ⟨b1, o1 + k * 2 + 1, none⟩) hbw).trans m2; have x3 := (hb6.cell (p := ⟨e1, f1 + q * 2, none⟩) hew).trans y0; have x4 := (hb6.cell (p := ⟨e1, f1 + q * 2 + 1, none⟩) hew).trans y1) | fail)
            all_goals
              have HV6 := hide hB6
              have HW6 : Hid (Below W.heap.size W w6) := HW.out.trans (hb6.mono hsw)
              clear hB6 hb6 x1 x2 x3 x4 CA
              go_wp2
              go_roundw
              case rel => exact ⟨q + 1, addB ll (tx, bx) cur, by omega, by go_num, HV6.out, HJ2.out, HZ2.out, HW6.out⟩
              case measure => simp [intOf]; omega
        · have HJ2 : Hid (IsJoin (a :: singles (b.take (k + 1))) cur) := by
            rw [HSt.out]
            have h := HJ.out
            rw [show sl.take q = sl from List.take_of_length_le (by omega)] at h
            exact h
          have HZ2 : Hid (Sz 100000000 cur (samN (b.take (k + 1)))) := by
            rw [HNt.out]
            have e : q = sl.length := by omega
            rw [← e]; exact HZ.out
          go_wp2
          go_roundw
          case rel => exact ⟨k + 1, cur, by omega, by go_num, HV.out, HJ2.out, HZ2.out, HW.out⟩
          case measure => simp [intOf]; omega
    · obtain rfl : k = b.length := by omega
      have HJ2 : Hid (IsJoin [a, b] cur) := by
        have h := HJ.out
        rw [List.take_length] at h
        exact h.singles
      have HZ2 : Hid (Sz 100000000 cur (samN b)) := by
        have h := HZ.out
        rw [List.take_length] at h
        exact h
      go_wp2
      go_ret
      exact ⟨_, cur, rfl, HJ2.out, HZ2.out, HV.out, HW.out⟩
end Go.Proofs.Ytcidgfdiacehmaa

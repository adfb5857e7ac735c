/- choirkeep's Both. -/
import Derived.Test.YtcidgfdiacehmaaKAt
import Derived.Test.YtcidgfdiacehmaaKJoin
import Derived.Test.YtcidgfdiacehmaaSpread
namespace Go.Proofs.Ytcidgfdiacehmaa
open Go.RowKit Go.Lib

theorem RawsAt.below {w w' : World} {B B' : Nat} {v : Value} {l : List (Int × Int × Nat)} (h : RawsAt w B v l) (hb : Below B' w w') (hB : B ≤ B') : RawsAt w' B v l := by
  obtain ⟨a, cap, hv, hr, h2⟩ := h
  refine ⟨a, cap, hv, hr, ?_⟩
  rcases h2 with h2 | ⟨b, o, ha, hbB, hcell⟩
  · exact .inl h2
  · refine .inr ⟨b, o, ha, hbB, fun i x hx => ?_⟩
    obtain ⟨h1, h2, h3⟩ := hcell i x hx
    exact ⟨(hb.cell (p := ⟨b, o + i * 3, none⟩) (by show b < B'; omega)).trans h1, (hb.cell (p := ⟨b, o + i * 3 + 1, none⟩) (by show b < B'; omega)).trans h2, (hb.cell (p := ⟨b, o + i * 3 + 2, none⟩) (by show b < B'; omega)).trans h3⟩
/-- What was counted so far: all keys of the first m series, and k of the next. -/
def twiceTo (a b : List Ser) (m : Nat) : Nat := (keysOf ((a ++ b).take m)).countP (inBoth a b)
def twiceAt (a b : List Ser) (m : Nat) (ll : List Lab) (sl : List (Int × Nat)) (k : Nat) : Nat := twiceTo a b m + ((sl.take k).map fun x => (ll, x.1)).countP (inBoth a b)
theorem twiceAt_next {a b : List Ser} {m : Nat} {ll : List Lab} {sl : List (Int × Nat)} {k : Nat} {x : Int × Nat} (hx : sl[k]? = some x) : twiceAt a b m ll sl (k + 1) = twiceAt a b m ll sl k + (if inBoth a b (ll, x.1) then 1 else 0) := by
  unfold twiceAt
  rw [List.take_add_one, hx]
  simp only [Option.toList_some, List.map_append, List.map_cons, List.map_nil, List.countP_append, List.countP_cons, List.countP_nil]
  omega
theorem twiceAt_end {a b : List Ser} {m : Nat} {ll : List Lab} {sl : List (Int × Nat)} {k : Nat} (hx : (a ++ b)[m]? = some (ll, sl)) (hk : sl.length ≤ k) : twiceAt a b m ll sl k = twiceTo a b (m + 1) := by
  unfold twiceAt twiceTo
  rw [List.take_add_one, hx, keysOf_app, List.countP_append, List.take_of_length_le hk]
  simp [keysOf]
theorem twiceAt_le {a b : List Ser} {m : Nat} {ll : List Lab} {sl : List (Int × Nat)} (k : Nat) (hx : (a ++ b)[m]? = some (ll, sl)) : twiceAt a b m ll sl k ≤ countS a + countS b := by
  have h1 : twiceAt a b m ll sl k ≤ twiceAt a b m ll sl (sl.length + k) := by
    unfold twiceAt
    have h0 : (sl.take k).Sublist (sl.take (sl.length + k)) := by rw [List.take_of_length_le (by omega : sl.length ≤ sl.length + k)]; exact List.take_sublist _ _
    have h1 := (h0.map fun x => (ll, x.1)).countP_le (p := inBoth a b)
    exact Nat.add_le_add_left h1 _
  rw [twiceAt_end (k := sl.length + k) hx (by omega)] at h1
  have h2 : twiceTo a b (m + 1) ≤ (keysOf ((a ++ b).take (m + 1))).length := List.countP_le_length
  have h3 := countS_take_le (a ++ b) (m + 1)
  have h4 : countS (a ++ b) = countS a + countS b := by simp [countS, keysOf_app]
  have h5 : (keysOf ((a ++ b).take (m + 1))).length = countS ((a ++ b).take (m + 1)) := rfl
  omega

set_option maxRecDepth 100000 in
set_option maxHeartbeats 2000000 in
theorem both_any (W : World) (v1 v2 : Value) (r1 r2 : List (Int × Int × Nat)) (h1 : RawsAt W W.heap.size v1 r1) (h2 : RawsAt W W.heap.size v2 r2) (hl1 : r1.length ≤ 100000000000000) (hl2 : r2.length ≤ 100000000000000) :
    Calls Try.prog 4 #[v1, v2] W fun e w' => e = .returned (.bool true) ∧ Below W.heap.size W w' := by
  obtain ⟨i0, hi, hz0, hz1, hz2⟩ := info_parts Try.infoSer
  have C1 := hide (kbatch_more W.heap.size v1 r1 W h1 (Nat.le_refl _) hl1)
  have HR2 := hide h2
  obtain ⟨ra, rc, rfl, -⟩ := id h1
  obtain ⟨qa, qc, rfl, -⟩ := id h2
  clear h1 h2
  go_enter Try.func4, Try.ntmps4
  go_wp2_with fail
  refine C1.out.mono ?_
  rintro e w1 ⟨va, a, rfl, hA1, oa, la, _, ka, hb1⟩
  have C2 := hide (kbatch_more W.heap.size (.slice qa r2.length qc) r2 w1 (HR2.out.below hb1 (Nat.le_refl _)) hb1.size hl2)
  have HB1 := hide hb1
  have HA1 := hide hA1
  obtain ⟨aa, ac, rfl, -⟩ := id hA1
  have hs1 := hb1.size
  clear hb1 C1 HR2 hA1
  go_wp2_with fail
  refine C2.out.mono ?_
  rintro e w2 ⟨vb, b, rfl, hB2, ob, lb, _, kb, hb2⟩
  have hs2 := hb2.size
  have hA2 := (HA1.out.below hb2 (Nat.le_refl _)).wider hs2
  have C3 := hide (kjoined_any w2 _ _ a b hA2 hB2 (small_of la) (small_of lb) oa ob la lb fun j hj => (hj.kb ka kb oa ob).limits (by decide) hj.ok)
  have HB2 := hide (HB1.out.trans (hb2.mono hs1))
  have HA2 := hide hA2
  have HBt2 := hide hB2
  obtain ⟨ba, bc, rfl, -⟩ := id hB2
  clear hb2 C2 HB1 HA1 hA2 hB2
  go_wp2_with fail
  refine C3.out.mono ?_
  rintro e w3 ⟨jv, j, hj, rfl, hJ3, lj, hb3⟩
  have hs3 := hb3.size
  obtain ⟨ja, jc, rfl, -⟩ := id hJ3
  have hA3 := (HA2.out.below hb3 (Nat.le_refl _)).wider hs3
  have hB3 := (HBt2.out.below hb3 (Nat.le_refl _)).wider hs3
  have HB3 : Hid (Below W.heap.size W w3) := HB2.out.trans (hb3.mono (by omega))
  have hcnt := both_count oa ob hj
  have hca := countS_le la
  have hcb := countS_le lb
  have hcj := countS_le lj
  have hla := la.2
  have hlb := lb.2
  have HO : Hid (BatchOk a ∧ BatchOk b ∧ IsJoin [a, b] j ∧ LimitsOk a ∧ LimitsOk b ∧ LimitsOk j) := ⟨oa, ob, hj, la, lb, lj⟩
  obtain ⟨-, as1, hpa, hsa⟩ := batchAt_pairs hA3
  obtain ⟨-, bs1, hpb, hsb⟩ := batchAt_pairs hB3
  have HA3 := hide hA3
  have HBt3 := hide hB3
  have HJ3 := hide hJ3
  have HPA := hide hpa
  have HPB := hide hpb
  have HSA := hide hsa
  have HSB := hide hsb
  have HCnt := hide hcnt
  clear hb3 C3 HB2 HA2 HBt2 hA3 hB3 hJ3 hpa hpb hsa hsb hcnt oa ob la lb lj hj ka kb
  have hnew : (w3.alloc (.cells #[] 37)).ownsRow w3.heap.size 37 2 (.slice (some ⟨w3.heap.size, 0, none⟩) 0 0) 0 [] := World.ownsRow_lit w3 #[] 0 (Nat.le_refl _) (by decide) rfl
  have HNew := hide hnew
  clear hnew
  have HSA2 : Hid (a.length = 0 ∨ ∃ ad, aa = some ad ∧ ∀ j u, (serCells as1)[j]? = some u → (w3.alloc (.cells #[] 37)).cell? (ad.add j) = some u) := HSA.out.imp id fun ⟨ad, e1, e2, e3⟩ => ⟨ad, e1, fun j u hu => (World.cell?_alloc_old _ _ _ (by have e4 : (ad.add j).block = ad.block := addr_block ad j; rw [e4]; omega)).trans (e3 j u hu)⟩
  go_wp2_with (at_builtin; refine wpList_append_spread _ rfl (.tmp 32) (.tmp 33) 22 rfl w3.heap.size 37 i0 (.agg #[.slice none 0 0, .slice none 0 0]) 2 48 Try.underlying22 hi hz0 hz1 hz2 rfl (by decide) (.slice (some ⟨w3.heap.size, 0, none⟩) 0 0) 0 [] rfl HNew.out aa a.length ac (serCells as1) rfl (pairs_len HPA.out) HSA2.out HPA.out.oneCell (by unfold maxLen; omega) (by omega) (by simp) ?_)
  intro va1 w4 ho4 hg4 hh4
  have hb34 : Below w3.heap.size w3 w4 := below_grownAt ((Below.refl _ _).alloc (Nat.le_refl _) _) hg4 (by simp) (fun b e => by cases e; exact Nat.le_refl _)
  have HB34 := hide hb34
  have HO4 := hide ho4
  obtain ⟨a4, c4, rfl⟩ := own_shape ho4
  have hs4 : w3.heap.size ≤ w4.heap.size := hb34.size
  have HSB2 : Hid (b.length = 0 ∨ ∃ ad, ba = some ad ∧ ∀ j u, (serCells bs1)[j]? = some u → w4.cell? (ad.add j) = some u) := HSB.out.imp id fun ⟨ad, e1, e2, e3⟩ => ⟨ad, e1, fun j u hu => (HB34.out.cell (by have e4 : (ad.add j).block = ad.block := addr_block ad j; rw [e4]; exact e2)).trans (e3 j u hu)⟩
  clear ho4 hg4 hh4 hb34 HNew HSA2 HSA HSB
  go_wp2_with (at_builtin; refine wpList_append_spread _ rfl (.tmp 34) (.tmp 35) 22 rfl w3.heap.size 37 i0 (.agg #[.slice none 0 0, .slice none 0 0]) 2 48 Try.underlying22 hi hz0 hz1 hz2 rfl (by decide) (.slice a4 a.length c4) a.length (serCells as1) rfl HO4.out ba b.length bc (serCells bs1) rfl (pairs_len HPB.out) HSB2.out HPB.out.oneCell (by unfold maxLen; omega) (by omega) hs4 ?_)
  intro vl w5 ho5 hg5 hh5
  have hb35 : Below w3.heap.size w3 w5 := below_grownAt HB34.out hg5 hs4 (fun b e => (World.ownsRow.lt HO4.out b e).1)
  have hs5 := hb35.size
  have HW5 : Hid (Below W.heap.size W w5) := HB3.out.trans (hb35.mono (by omega))
  obtain ⟨L, hL⟩ : ∃ L, L = a ++ b := ⟨_, rfl⟩
  have hLl : L.length = a.length + b.length := by rw [hL]; simp
  have ho5' : w5.ownsRow w3.heap.size 37 2 vl L.length (serCells (as1 ++ bs1)) := by rw [hLl, serCells_app]; exact ho5
  have hpl : Pairs w5 w5.heap.size (as1 ++ bs1) L := by rw [hL]; exact ((HPA.out.below hb35 (Nat.le_refl _)).wider hs5).app ((HPB.out.below hb35 (Nat.le_refl _)).wider hs5)
  have hL5 := hpl.batchAt ho5'
  obtain ⟨l5, c5, rfl, -⟩ := id hL5
  have HL5 := hide hL5
  have HA5 := hide ((HA3.out.below hb35 (Nat.le_refl _)).wider hs5)
  have HBt5 := hide ((HBt3.out.below hb35 (Nat.le_refl _)).wider hs5)
  have HJ5 := hide ((HJ3.out.below hb35 (Nat.le_refl _)).wider hs5)
  have HLe := hide hL
  have hL16 : L.length ≤ 16 := by omega
  have HSm : Hid (∀ s ∈ L, s.1.length ≤ 4 ∧ s.2.length ≤ 40) := fun s hs => by
    rw [HLe.out] at hs
    rcases List.mem_append.1 hs with h | h
    · exact limits_mem HO.out.2.2.2.1 s h
    · exact limits_mem HO.out.2.2.2.2.1 s h
  clear ho5 hg5 hh5 hb35 ho5' hpl hL5 hL HB34 HO4 HSB2 HA3 HBt3 HJ3 HPA HPB HB3 hLl
  go_wp2
  go_loopw [9, 11, 12, 13, 14, 15, 16, 17, 18, 19] (fun tw i _ _ _ _ _ _ _ _ wr => ∃ m : Nat, m ≤ L.length ∧ i = .int .i64 m ∧ tw = .int .i64 (twiceTo a b m : Nat) ∧ Hid (Below w5.heap.size w5 wr)) (fun _ i _ _ _ _ _ _ _ _ _ => L.length - (intOf i).toNat)
  case atStart => exact ⟨0, Nat.zero_le _, rfl, by simp [twiceTo, keysOf], Below.refl _ _⟩
  case round =>
    obtain ⟨m, hm, rfl, rfl, HW⟩ := hrel
    by_cases hlt : m < L.length
    · obtain ⟨⟨ll, sl⟩, hx⟩ : ∃ x, L[m]? = some x := ⟨_, List.getElem?_eq_getElem hlt⟩
      have hsm := HSm.out _ (List.mem_of_getElem? hx)
      obtain ⟨lb, lo, la1, lc1, sa1, sc1, rfl, hlb1, p1, p2, L1, S1⟩ := HL5.out.get hx
      simp only at p1 p2 L1 S1 hsm
      have HL1 := hide L1
      have HS1 := hide S1
      have hab : (a ++ b)[m]? = some (ll, sl) := by rw [← HLe.out]; exact hx
      have HX := hide hab
      clear hx L1 S1 hab
      go_wp2
      go_loopw [9, 12, 13, 14, 15, 16, 17, 18, 19] (fun tw k _ _ _ _ _ _ _ wr => ∃ q : Nat, q ≤ sl.length ∧ k = .int .i64 q ∧ tw = .int .i64 (twiceAt a b m ll sl q : Nat) ∧ Hid (Below w5.heap.size w5 wr)) (fun _ k _ _ _ _ _ _ _ _ => sl.length - (intOf k).toNat)
      case atStart => exact ⟨0, Nat.zero_le _, rfl, by simp [twiceAt], HW.out⟩
      case round =>
        clear HW
        obtain ⟨q, hq, rfl, rfl, HW⟩ := hrel
        have hsw := HW.out.size
        have d1 := (HW.out.cell (p := ⟨lb, lo + m * 2, none⟩) hlb1).trans p1
        have d2 := (HW.out.cell (p := ⟨lb, lo + m * 2 + 1, none⟩) hlb1).trans p2
        by_cases hql : q < sl.length
        · obtain ⟨⟨tx, bx⟩, hy⟩ : ∃ x, sl[q]? = some x := ⟨_, List.getElem?_eq_getElem hql⟩
          obtain ⟨e1, f1, rfl, u1, u2⟩ := samGet (HS1.out.below HW.out (Nat.le_refl _)) hy
          simp only at u1 u2
          have HNx : Hid (twiceAt a b m ll sl (q + 1) = twiceAt a b m ll sl q + (if inBoth a b (ll, tx) then 1 else 0)) := twiceAt_next hy
          have htl := twiceAt_le (q + 1) HX.out
          have HK : Hid ((ll, tx) ∈ keysOf (a ++ b)) := mem_keys.2 ⟨bx, (ll, sl), List.mem_of_getElem? HX.out, rfl, List.mem_of_getElem? hy⟩
          clear hy
          go_wp2
          have s0 : (wr.alloc (.cells #[.int .i64 tx, .int .u64 bx] 33)).cell? ⟨wr.heap.size, 0, none⟩ = some (.int .i64 tx) := World.cell?_alloc_new _ _ _ 0
          have HW1 : Hid (Below w5.heap.size w5 (wr.alloc (.cells #[.int .i64 tx, .int .u64 bx] 33))) := HW.out.alloc hsw _
          have hsb : wr.heap.size < (wr.alloc (.cells #[.int .i64 tx, .int .u64 bx] 33)).heap.size := by simp
          clear u1 u2 d1 d2
          generalize wr.alloc (.cells #[.int .i64 tx, .int .u64 bx] 33) = W1 at *
          generalize wr.heap.size = sb at *
          have hlbW : lb < W1.heap.size := Nat.lt_of_lt_of_le hlb1 HW1.out.size
          have d1 := (HW1.out.cell (p := ⟨lb, lo + m * 2, none⟩) hlb1).trans p1
          have hll4 : ll.length ≤ 10000000000000 := by omega
          have CG : Hid (∀ (W2 : World) (vx : Value) (xs : List Ser), Below W1.heap.size W1 W2 → BatchAt w5 w5.heap.size vx xs → LimitsOk xs → Calls Try.prog 8 #[vx, .slice la1 ll.length lc1, .int .i64 tx] W2 fun e w' => ∃ r, AtOf xs ll tx r ∧ e = .returned (.tuple #[.int .u64 ((r.getD 0 : Nat) : Int), .bool r.isSome]) ∧ Below W1.heap.size W1 w') := fun W2 vx xs h2 hx hlx => by
            have h5 := HW1.out.trans (h2.mono HW1.out.size)
            exact (kat_any W2 vx _ xs ll tx ((hx.below h5 (Nat.le_refl _)).wider h5.size) ((HL1.out.below h5 (Nat.le_refl _)).wider h5.size) (small_of hlx) hll4).mono fun e w' ⟨r, h1, h3, h4⟩ => ⟨r, h1, h3, h2.trans (h4.mono h2.size)⟩
          have CA : Hid (∀ W2, Below W1.heap.size W1 W2 → Calls Try.prog 8 #[.slice aa a.length ac, .slice la1 ll.length lc1, .int .i64 tx] W2 fun e w' => ∃ r, AtOf a ll tx r ∧ e = .returned (.tuple #[.int .u64 ((r.getD 0 : Nat) : Int), .bool r.isSome]) ∧ Below W1.heap.size W1 w') := fun W2 h2 => CG.out W2 _ a h2 HA5.out HO.out.2.2.2.1
          have CB : Hid (∀ W2, Below W1.heap.size W1 W2 → Calls Try.prog 8 #[.slice ba b.length bc, .slice la1 ll.length lc1, .int .i64 tx] W2 fun e w' => ∃ r, AtOf b ll tx r ∧ e = .returned (.tuple #[.int .u64 ((r.getD 0 : Nat) : Int), .bool r.isSome]) ∧ Below W1.heap.size W1 w') := fun W2 h2 => CG.out W2 _ b h2 HBt5.out HO.out.2.2.2.2.1
          have CJ : Hid (∀ W2, Below W1.heap.size W1 W2 → Calls Try.prog 8 #[.slice ja j.length jc, .slice la1 ll.length lc1, .int .i64 tx] W2 fun e w' => ∃ r, AtOf j ll tx r ∧ e = .returned (.tuple #[.int .u64 ((r.getD 0 : Nat) : Int), .bool r.isSome]) ∧ Below W1.heap.size W1 w') := fun W2 h2 => CG.out W2 _ j h2 HJ5.out HO.out.2.2.2.2.2
          clear CG HW
          as_aux_lemma =>
            go_region_held3 (fun w' => w'.cell? ⟨lb, lo + m * 2, none⟩ = some (.slice la1 ll.length lc1) ∧ w'.cell? ⟨sb, 0, none⟩ = some (.int .i64 tx)) (go_keep) (first | (go_at_call 8; refine (CA.out _ (by first | exact (Below.refl _ _).drew | exact Below.refl _ _)).mono ?_; rintro e w6 ⟨u, hu, rfl, hb6⟩; have x1 := (hb6.cell (p := ⟨lb, lo + m * 2, none⟩) hlbW).trans d1; have x2 := (hb6.cell (p := ⟨sb, 0, none⟩) hsb).trans s0) | fail)
            all_goals
              have HU := hide hu
              have HB6 := hide hb6
              clear hu hb6 CA d1 s0
              go_wp2
              as_aux_lemma =>
                go_region_held3 (fun w' => w'.cell? ⟨lb, lo + m * 2, none⟩ = some (.slice la1 ll.length lc1) ∧ w'.cell? ⟨sb, 0, none⟩ = some (.int .i64 tx)) (go_keep) (first | (go_at_call 8; refine (CB.out _ (by first | exact HB6.out.drew | exact HB6.out)).mono ?_; rintro e w7 ⟨v, hv, rfl, hb7⟩; have y1 := (hb7.cell (p := ⟨lb, lo + m * 2, none⟩) hlbW).trans ((HB6.out.cell (p := ⟨lb, lo + m * 2, none⟩) hlbW).symm.trans x1); have y2 := (hb7.cell (p := ⟨sb, 0, none⟩) hsb).trans ((HB6.out.cell (p := ⟨sb, 0, none⟩) hsb).symm.trans x2)) | fail)
                all_goals
                  have HV := hide hv
                  have HB7 := hide hb7
                  clear hv hb7 CB x1 x2 HB6
                  go_wp2
                  as_aux_lemma =>
                    go_region_held3 (fun w' => w'.cell? ⟨lb, lo + m * 2, none⟩ = some (.slice la1 ll.length lc1) ∧ w'.cell? ⟨sb, 0, none⟩ = some (.int .i64 tx)) (go_keep) (first | (go_at_call 8; refine (CJ.out _ (by first | exact HB7.out.drew | exact HB7.out)).mono ?_; rintro e w8 ⟨z, hz, rfl, hb8⟩; have z1 := (hb8.cell (p := ⟨lb, lo + m * 2, none⟩) hlbW).trans ((HB7.out.cell (p := ⟨lb, lo + m * 2, none⟩) hlbW).symm.trans y1); have z2 := (hb8.cell (p := ⟨sb, 0, none⟩) hsb).trans ((HB7.out.cell (p := ⟨sb, 0, none⟩) hsb).symm.trans y2)) | fail)
                    all_goals
                      have HB8 : Hid (Below w5.heap.size w5 w8) := HW1.out.trans (hb8.mono HW1.out.size)
                      obtain ⟨M, rfl, hM1, hM2, hM3⟩ := both_at HO.out.1 HO.out.2.1 HO.out.2.2.1 HU.out HV.out hz HK.out
                      have hin : inBoth a b (ll, tx) = (u.isSome && v.isSome) := by unfold inBoth; rw [HU.out.mem, HV.out.mem]
                      rw [hin] at HNx
                      clear hz hb8 z1 z2 y1 y2 HB7 HU HV CJ hin HK
                      cases u with
                      | none =>
                        cases v with
                        | none => rcases hM3 with h | h <;> cases h
                        | some y =>
                          obtain rfl : y = M := by rcases hM3 with h | h; cases h; exact Option.some.inj h
                          clear hM1 hM2 hM3
                          have HN2 : Hid (twiceAt a b m ll sl (q + 1) = twiceAt a b m ll sl q) := hide (by simpa using HNx.out)
                          clear HNx
                          go_wp2
                          go_roundw
                          case rel => exact ⟨q + 1, by omega, by go_num, by rw [HN2.out], HB8.out⟩
                          case measure => simp [intOf]; omega
                      | some x =>
                        cases v with
                        | none =>
                          obtain rfl : x = M := by rcases hM3 with h | h; exact Option.some.inj h; cases h
                          clear hM1 hM2 hM3
                          have HN2 : Hid (twiceAt a b m ll sl (q + 1) = twiceAt a b m ll sl q) := hide (by simpa using HNx.out)
                          clear HNx
                          go_wp2
                          go_roundw
                          case rel => exact ⟨q + 1, by omega, by go_num, by rw [HN2.out], HB8.out⟩
                          case measure => simp [intOf]; omega
                        | some y =>
                          have hx1 := hM1 x rfl
                          have hy1 := hM2 y rfl
                          have HN2 : Hid (twiceAt a b m ll sl (q + 1) = twiceAt a b m ll sl q + 1) := hide (by simpa using HNx.out)
                          have htl2 : twiceAt a b m ll sl q + 1 ≤ 640 := by have := HN2.out; omega
                          have hxi : ¬ (M : Int) < (x : Int) := by omega
                          have hyi : ¬ (M : Int) < (y : Int) := by omega
                          by_cases hMx : M = x
                          · subst hMx
                            clear hM1 hM2 hM3 HNx
                            go_wp2
                            go_roundw
                            case rel => exact ⟨q + 1, by omega, by go_num, by rw [HN2.out]; go_num, HB8.out⟩
                            case measure => simp [intOf]; omega
                          · obtain rfl : y = M := by rcases hM3 with h | h; exact absurd (Option.some.inj h).symm hMx; exact Option.some.inj h
                            have hMi : ¬ (y : Int) = (x : Int) := by omega
                            clear hM1 hM2 hM3 HNx
                            go_wp2
                            go_roundw
                            case rel => exact ⟨q + 1, by omega, by go_num, by rw [HN2.out]; go_num, HB8.out⟩
                            case measure => simp [intOf]; omega
        · have HE : Hid (twiceAt a b m ll sl q = twiceTo a b (m + 1)) := twiceAt_end HX.out (by omega)
          go_wp2
          go_roundw
          case rel => exact ⟨m + 1, by omega, by go_num, by rw [HE.out], HW.out⟩
          case measure => simp [intOf]; omega
    · obtain rfl : m = L.length := by omega
      have hsw := HW.out.size
      have HC1 := hide (ksamples_any _ j wr ((HJ5.out.below HW.out (Nat.le_refl _)).wider hsw) HO.out.2.2.2.2.2)
      have HT : Hid (twiceTo a b L.length = 2 * (keysOf b).countP (isKey a)) := by
        show twiceTo a b L.length = _
        unfold twiceTo
        rw [← HLe.out, List.take_length, HLe.out]; exact HCnt.out.1
      generalize hN : (keysOf b).countP (isKey a) = N at *
      have hcj2 : countS j + N = countS a + countS b := HCnt.out.2
      rw [HT.out]
      clear HT HCnt
      generalize hNa : countS a = Na at *
      generalize hNb : countS b = Nb at *
      generalize hNj : countS j = Nj at *
      have HNa := hide hNa
      have HNb := hide hNb
      clear hN hNa hNb hNj
      go_wp2_with fail
      refine HC1.out.mono ?_
      rintro e w6 ⟨rfl, hb6⟩
      have hs6 := hb6.size
      have HW6 : Hid (Below w5.heap.size w5 w6) := HW.out.trans (hb6.mono hsw)
      have HC2 := hide (ksamples_any _ a w6 ((HA5.out.below HW6.out (Nat.le_refl _)).wider (by omega)) HO.out.2.2.2.1)
      rw [HNa.out] at HC2
      clear hb6 HC1 HW
      go_wp2_with fail
      refine HC2.out.mono ?_
      rintro e w7 ⟨rfl, hb7⟩
      have hs7 := hb7.size
      have HW7 : Hid (Below w5.heap.size w5 w7) := HW6.out.trans (hb7.mono (by omega))
      have HC3 := hide (ksamples_any _ b w7 ((HBt5.out.below HW7.out (Nat.le_refl _)).wider (by omega)) HO.out.2.2.2.2.1)
      rw [HNb.out] at HC3
      clear hb7 HC2 HW6
      go_wp2_with fail
      refine HC3.out.mono ?_
      rintro e w8 ⟨rfl, hb8⟩
      have HW8 : Hid (Below W.heap.size W w8) := HW5.out.trans ((HW7.out.trans (hb8.mono (by omega))).mono (by omega))
      have hq : ((2 * N : Nat) : Int) / 2 = (N : Int) := by omega
      have hq2 : Int.tdiv ((2 * N : Nat) : Int) 2 = (N : Int) := by rw [Int.tdiv_eq_ediv_of_nonneg (by omega)]; omega
      have hend : (Nj : Int) = (Na : Int) + (Nb : Int) - (N : Int) := by omega
      clear hb8 HC3 HW7
      go_wp2
      go_ret
      exact ⟨by rfl, HW8.out⟩
end Go.Proofs.Ytcidgfdiacehmaa

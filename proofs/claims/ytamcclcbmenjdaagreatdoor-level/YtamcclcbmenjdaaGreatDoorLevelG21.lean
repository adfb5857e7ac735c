/- 'choirkeep.Level', for any list of steps (100 of them are done): when all are up, nothing is under way, and each has told each other one, all have the same, and compacted logs are the same bytes. The first form's statement and its card: no condition beside the row's own. -/
import Derived.Test.YtamcclcbmenjdaaGreatDoorLevelG4
/- choirkeep's batch: what it answers lies in new memory alone. -/
namespace Go.Proofs.YtamcclcbmenjdaaGreatDoor
open Go.RowKit Go.Lib

/-- A batch that reads so as long as the blocks from base on are as they were. -/
def FreshB (w : World) (base : Nat) (v : Value) (bs : List Ser) : Prop := (∀ k, v.ownBlock = some k → base ≤ k) ∧ ∀ w', w.heap.size ≤ w'.heap.size → (∀ k, base ≤ k → k < w.heap.size → w'.heap[k]? = w.heap[k]?) → BatchAt w' w'.heap.size v bs
def EntsF (w : World) (a0 : Nat) (o : Value) (bs : List Ser) : Prop :=
  ∃ vals : List (Value × Value), vals.length = bs.length ∧ w.ownsRow (a0 + 1) 38 2 o bs.length (serCells vals) ∧ (∀ (i : Nat) (p : Value × Value) (x : Ser), vals[i]? = some p → bs[i]? = some x → Ent w o p x) ∧
    ∀ (i : Nat) (p : Value × Value), vals[i]? = some p → (∀ k, p.1.ownBlock = some k → a0 ≤ k) ∧ (∀ k, p.2.ownBlock = some k → a0 ≤ k)
theorem EntsF.snoc {w w1 w' : World} {a0 : Nat} {o o' : Value} {bs : List Ser} {p : Value × Value} {x : Ser} {vals : List (Value × Value)} (hv : vals.length = bs.length) (he : ∀ (i : Nat) (p : Value × Value) (x : Ser), vals[i]? = some p → bs[i]? = some x → Ent w o p x)
    (ho : w'.ownsRow (a0 + 1) 38 2 o' (bs.length + 1) (serCells vals ++ [p.1, p.2])) (hb : ∀ k, k < w.heap.size → some k ≠ o.ownBlock → w'.heap[k]? = w.heap[k]?) (hs : w.heap.size ≤ w'.heap.size) (hh : Heir w1 o o') (hs1 : w.heap.size ≤ w1.heap.size) (hp : Ent w' o' p x)
    (hlo : ∀ (i : Nat) (p : Value × Value), vals[i]? = some p → (∀ k, p.1.ownBlock = some k → a0 ≤ k) ∧ (∀ k, p.2.ownBlock = some k → a0 ≤ k)) (hpl : (∀ k, p.1.ownBlock = some k → a0 ≤ k) ∧ (∀ k, p.2.ownBlock = some k → a0 ≤ k)) : EntsF w' a0 o' (bs ++ [x]) := by
  refine ⟨vals ++ [p], by simp [hv], ?_, fun i q y hq hy => ?_, fun i q hq => ?_⟩
  · rw [serCells_snoc, List.length_append]; exact ho
  · by_cases hi : i < vals.length
    · rw [List.getElem?_append_left hi] at hq
      rw [List.getElem?_append_left (by rw [← hv]; exact hi)] at hy
      exact (he i q y hq hy).step hb hs hh hs1
    · have hi2 : i < vals.length + 1 := by
        have := (List.getElem?_eq_some_iff.1 hq).1; simpa using this
      have e : i = vals.length := by omega
      subst e
      rw [List.getElem?_append_right (Nat.le_refl _), Nat.sub_self] at hq
      rw [hv, List.getElem?_append_right (Nat.le_refl _), Nat.sub_self] at hy
      cases hq
      cases hy
      exact hp
  · by_cases hi : i < vals.length
    · rw [List.getElem?_append_left hi] at hq
      exact hlo i q hq
    · have hi2 : i < vals.length + 1 := by
        have := (List.getElem?_eq_some_iff.1 hq).1; simpa using this
      have e : i = vals.length := by omega
      subst e
      rw [List.getElem?_append_right (Nat.le_refl _), Nat.sub_self] at hq
      cases hq
      exact hpl
theorem EntsF.freshB {w : World} {a0 : Nat} {o : Value} {bs : List Ser} (h : EntsF w a0 o bs) : FreshB w a0 o bs := by
  obtain ⟨vals, hv, ho, he, hlo⟩ := h
  refine ⟨fun k e => by have := (World.ownsRow.lt ho k e).1; omega, fun w' hs hk => ?_⟩
  refine EntsAt.batchAt (a0 := a0) ⟨vals, hv, own_kept ho fun k e => hk k (by have := (World.ownsRow.lt ho k e).1; omega) (World.ownsRow.lt ho k e).2, fun i p x hp hx => ?_⟩
  have h1 := he i p x hp hx
  have h2 := hlo i p hp
  exact ⟨labs_kept h1.lab (fun k e => hk k (h2.1 k e) (h1.lt1 k e)) hs, sams_kept h1.sam (fun k e => hk k (h2.2 k e) (h1.lt2 k e)) hs, h1.off1, h1.off2, fun k e => Nat.lt_of_lt_of_le (h1.lt1 k e) hs, fun k e => Nat.lt_of_lt_of_le (h1.lt2 k e) hs⟩

set_option linter.unusedSimpArgs false in
set_option maxRecDepth 100000 in
set_option maxHeartbeats 2000000 in
theorem kbatch_fresh (B : Nat) (v : Value) (raws : List (Int × Int × Nat)) (w : World) (hR : RawsAt w B v raws) (hB : B ≤ w.heap.size) (hl : raws.length ≤ 100000000000000) :
    Calls Tryz.prog 13 #[v] w fun e w' => ∃ v' bs, e = .returned v' ∧ FreshB w' w.heap.size v' bs ∧ BatchOk bs ∧ LimitsOk bs ∧ InRange bs ∧ KB bs 10 ∧ Below w.heap.size w w' := by
  obtain ⟨i0, hi, hz0, hz1, hz2⟩ := info_parts Tryz.infoSam
  obtain ⟨i1, hi1, hy0, hy1, hy2⟩ := info_parts Tryz.infoSer
  obtain ⟨ra, rc, rfl, hrng, hraw⟩ := hR
  have HRg := hide hrng
  have hcR : ∀ m x, raws[m]? = some x → ∃ b o, ra = some ⟨b, o, none⟩ ∧ b < B ∧ w.cell? ⟨b, o + m * 3, none⟩ = some (.int .i64 x.1) ∧ w.cell? ⟨b, o + m * 3 + 1, none⟩ = some (.int .i64 x.2.1) ∧ w.cell? ⟨b, o + m * 3 + 2, none⟩ = some (.int .u64 x.2.2) := by
    intro m x hx
    rcases hraw with h | ⟨b, o, ha, hb, hc⟩
    · rw [h] at hx; cases hx
    · exact ⟨b, o, ha, hb, (hc m x hx).1, (hc m x hx).2.1, (hc m x hx).2.2⟩
  have HC := hide hcR
  have HA0 := hide (AllAt.init w)
  have HB0 : Hid (Below w.heap.size w (w.alloc (.cells #[.slice none 0 0, .slice none 0 0, .slice none 0 0, .slice none 0 0] 89))) := (Below.refl _ _).alloc (Nat.le_refl _) _
  clear hrng hraw hcR
  go_enter Tryz.func13, Tryz.ntmps13
  go_wp2
  go_loopw [4, 5, 6, 7, 8, 9] (fun i _ _ _ _ _ wr => ∃ (m : Nat) (vf : Nat → Value) (lf : Nat → List (Int × Nat)), m ≤ raws.length ∧ i = .int .i64 m ∧ AllAt wr w.heap.size vf lf ∧ (∀ j, j < 4 → GoodL (lf j)) ∧ Below w.heap.size w wr) (fun i _ _ _ _ _ _ => raws.length - (intOf i).toNat)
  case atStart => exact ⟨0, _, _, Nat.zero_le _, rfl, HA0.out, fun _ _ => GoodL.nil, HB0.out⟩
  case round =>
    obtain ⟨m, vf, lf, hm, rfl, hA, hG, hBl⟩ := hrel
    have HA := hide hA
    have HG := hide hG
    have HBl := hide hBl
    have hsz := hBl.size
    clear HA0 HB0
    by_cases hlt : m < raws.length
    · obtain ⟨⟨se, ti, bi⟩, hx⟩ : ∃ x, raws[m]? = some x := ⟨_, List.getElem?_eq_getElem hlt⟩
      obtain ⟨b, o, rfl, hbB, c0, c1, c2⟩ := HC.out m (se, ti, bi) hx
      have hxr := HRg.out (se, ti, bi) (List.mem_of_getElem? hx)
      simp only at c0 c1 c2 hxr
      have hbw : b < w.heap.size := by omega
      have k0 := (hBl.cell (p := ⟨b, o + m * 3, none⟩) hbw).trans c0
      have k1 := (hBl.cell (p := ⟨b, o + m * 3 + 1, none⟩) hbw).trans c1
      have k2 := (hBl.cell (p := ⟨b, o + m * 3 + 2, none⟩) hbw).trans c2
      have C1 := hide (pick_any se 4 wr hxr.1 hxr.2.1 (by omega) (by omega))
      have hk4 := pk_lt se 4 (by omega)
      generalize pk se 4 = k at *
      have hcell := hA.cell k hk4
      have hown := hA.own k hk4
      obtain ⟨sa, sc, hvk⟩ := own_shape hown
      have hGk := hG k hk4
      have hlen := hGk.len
      have hk4i : (k : Int) < 4 := by omega
      rw [hvk] at hcell
      have HV := hide hvk
      have HO := hide hown
      clear hA hG hBl c0 c1 c2 hvk hown hx
      go_wp2_with fail
      refine C1.out.mono ?_
      rintro e w1 ⟨rfl, rfl⟩
      clear C1
      by_cases h10 : 10 ≤ (lf k).length
      · go_wp2
        go_roundw
        case rel => exact ⟨m + 1, vf, lf, by omega, by go_num, HA.out, HG.out, HBl.out⟩
        case measure => simp [intOf]; omega
      · have hbw1 : b < w1.heap.size := by omega
        have hbw2 : ¬ b = w1.heap.size := by omega
        go_wp2
        go_region
        have HAW : Hid (AllAt (w1.alloc (.cells #[.int .i64 ti, .int .u64 bi] 34)).drew w.heap.size vf lf) := (HA.out.alloc _).drew
        have HS0 : Hid ((w1.alloc (.cells #[.int .i64 ti, .int .u64 bi] 34)).drew.cell? ⟨w1.heap.size, 0, none⟩ = some (.int .i64 ti)) := World.cell?_alloc_new _ _ _ 0
        have HS1 : Hid ((w1.alloc (.cells #[.int .i64 ti, .int .u64 bi] 34)).drew.cell? ⟨w1.heap.size, 1, none⟩ = some (.int .u64 bi)) := World.cell?_alloc_new _ _ _ 1
        have HF0 : Hid ((w1.alloc (.cells #[.int .i64 ti, .int .u64 bi] 34)).drew.frozen? ⟨w1.heap.size, 0, none⟩ = false) := World.frozen?_alloc_new _ _ _ 0
        have HBW : Hid (Below w.heap.size w (w1.alloc (.cells #[.int .i64 ti, .int .u64 bi] 34)).drew) := (HBl.out.alloc hsz _).drew
        have hk1 := (World.cell?_of_block (a := ⟨b, o + m * 3 + 1, none⟩) (heap_alloc_old w1 (.cells #[.int .i64 ti, .int .u64 bi] 34) (by omega))).trans k1
        have hk1' : (w1.alloc (.cells #[.int .i64 ti, .int .u64 bi] 34)).drew.cell? ⟨b, o + m * 3 + 1, none⟩ = some (.int .i64 ti) := hk1
        have hsW : w1.heap.size < (w1.alloc (.cells #[.int .i64 ti, .int .u64 bi] 34)).drew.heap.size := by show _ < (w1.alloc _).heap.size; simp
        have hsbl : w.heap.size < w1.heap.size := HA.out.lt
        have HSb : Hid (∀ j, j < 4 → ∀ q, (vf j).ownBlock = some q → q < w1.heap.size) := fun j hj q e => (World.ownsRow.lt (HA.out.own j hj) q e).2
        generalize (w1.alloc (.cells #[.int .i64 ti, .int .u64 bi] 34)).drew = W at *
        generalize hsb : w1.heap.size = sb at *
        clear HA HBl hk1 k0 k1 k2 hcell
        by_cases h0 : 0 < (lf k).length
        · have hO1 : W.ownsRow (w.heap.size + 1) 34 2 (.slice sa (lf k).length sc) (lf k).length (samCells (lf k)) := by
            have h1 := HAW.out.own k hk4
            rw [HV.out] at h1; exact h1
          obtain ⟨g, cap, hsv⟩ := own_some hO1 h0
          obtain ⟨q, hq⟩ : ∃ q, (lf k).length = q + 1 := ⟨(lf k).length - 1, by omega⟩
          obtain ⟨⟨tl, bl⟩, hlast⟩ : ∃ x, (lf k)[q]? = some x := ⟨_, List.getElem?_eq_getElem (by omega)⟩
          have hlr := hGk.range (tl, bl) (List.mem_of_getElem? hlast)
          simp only at hlr
          have hcl : W.cell? ⟨g, q * 2, none⟩ = some (.int .i64 tl) := by
            rw [hsv] at hO1
            exact own_cell hO1 (pair_get (fun x : Int × Nat => .int .i64 x.1) (fun x => .int .u64 x.2) (lf k) q (tl, bl) hlast).1
          have hcW := (HV.out ▸ HAW.out.cell k hk4 : W.cell? ⟨w.heap.size, k, none⟩ = some (.slice sa (lf k).length sc))
          cases hsv
          have hni : ((lf k).length : Int) - 1 = (q : Int) := by omega
          have hqi : (q : Int) < ((lf k).length : Int) := by omega
          have C2 := hide (pick_any ti 1000 W hxr.2.2.1 hxr.2.2.2.1 (by omega) (by omega))
          have hst := pk_lt ti 1000 (by omega)
          generalize pk ti 1000 = st at *
          obtain ⟨T, hT⟩ : ∃ T, T = tl + (1 + (st : Int)) := ⟨_, rfl⟩
          have h0i : (0 : Int) < ((lf k).length : Int) := by omega
          have HLast := hide hlast
          have HQ := hide hq
          clear hO1 hlast hq
          go_wp2_with fail
          refine C2.out.mono ?_
          rintro e w2 ⟨rfl, rfl⟩
          clear C2
          by_cases hov : 9223372036854775807 - (1 + (st : Int)) < tl
          · go_wp2
            go_roundw
            case rel => exact ⟨m + 1, vf, lf, by omega, by go_num, HAW.out, HG.out, HBW.out⟩
            case measure => simp [intOf]; omega
          · have hovd : decide (9223372036854775807 - (1 + (st : Int)) < tl) = false := decide_eq_false hov
            have hTw : IntKind.i64.wrap (tl + (1 + (st : Int))) = tl + (1 + (st : Int)) := by rw [IntKind.wrap_i64]; omega
            have s0 := HS0.out
            have f0 := HF0.out
            have HTr : Hid (-9223372036854775808 ≤ T ∧ T ≤ 9223372036854775807 ∧ bi ≤ 18446744073709551615) := ⟨by omega, by omega, hxr.2.2.2.2⟩
            have HTl : Hid (∀ x, (lf k)[(lf k).length - 1]? = some x → x.1 < T) := fun x hx => by
              rw [show (lf k).length - 1 = q by have := HQ.out; omega, HLast.out] at hx
              cases hx
              show tl < T
              omega
            have HTT := hide hT
            clear hT hov
            go_wp2
            have HAW2 : Hid (AllAt (w2.setCell ⟨sb, 0, none⟩ (.int .i64 (tl + (1 + (st : Int))))) w.heap.size vf lf) := HAW.out.setOther (by omega) (fun j hj q e => by have := HSb.out j hj q e; omega) _
            have HT0 : Hid ((w2.setCell ⟨sb, 0, none⟩ (.int .i64 (tl + (1 + (st : Int))))).cell? ⟨sb, 0, none⟩ = some (.int .i64 T)) := by
              rw [HTT.out]; exact World.cell?_setCell_same _ _ _ s0
            have HT1 : Hid ((w2.setCell ⟨sb, 0, none⟩ (.int .i64 (tl + (1 + (st : Int))))).cell? ⟨sb, 1, none⟩ = some (.int .u64 bi)) := by
              show _ = _
              rw [World.cell?_setCell_other _ _ _ _ (fun e => absurd (congrArg Addr.off e) (by simp))]; exact HS1.out
            have HBW2 : Hid (Below w.heap.size w (w2.setCell ⟨sb, 0, none⟩ (.int .i64 (tl + (1 + (st : Int)))))) := HBW.out.setCell (p := ⟨sb, 0, none⟩) (by show w.heap.size ≤ sb; omega) _
            generalize w2.setCell ⟨sb, 0, none⟩ (.int .i64 (tl + (1 + (st : Int)))) = W2 at *
            clear HAW HBW HS0 HS1 s0 f0 hcl hcW hTw hovd HLast HQ HTT hk1'
            have s0 := HT0.out
            have s1 := HT1.out
            have HLf : Hid (∀ j, j < 4 → GoodL (if j = k then lf k ++ [(T, bi)] else lf j)) := fun j hj => by
              by_cases e : j = k
              · rw [if_pos e]; exact hGk.snoc (by omega) HTr.out (fun x hx => HTl.out x hx)
              · rw [if_neg e]; exact HG.out j hj
            have hcW := (HV.out ▸ HAW2.out.cell k hk4 : W2.cell? ⟨w.heap.size, k, none⟩ = some (.slice (some ⟨g, 0, none⟩) (lf k).length sc))
            have frW := HAW2.out.fr k
            have hsbne : ∀ q, (Value.slice (some ⟨g, 0, none⟩) (lf k).length sc).ownBlock = some q → w.heap.size + 1 ≤ q ∧ q < sb := fun q e => by
              have h1 := HO.out
              rw [HV.out] at h1
              have h2 := World.ownsRow.lt h1 q e
              exact ⟨h2.1, by rw [← hsb]; exact h2.2⟩
            have HOW : Hid (W2.ownsRow (w.heap.size + 1) 34 2 (.slice (some ⟨g, 0, none⟩) (lf k).length sc) (lf k).length (samCells (lf k))) := by
              have h1 := HAW2.out.own k hk4
              rw [HV.out] at h1; exact h1
            refine region_anyL (S := fun w' => w'.cell? ⟨w.heap.size, k, none⟩ = some (.slice (some ⟨g, 0, none⟩) (lf k).length sc) ∧ w'.cell? ⟨sb, 0, none⟩ = some (.int .i64 T) ∧ w'.cell? ⟨sb, 1, none⟩ = some (.int .u64 (bi : Nat))) 8 (by kernel_rfl) ⟨hcW, s0, s1⟩ (fun hS => ?_)
            refine anyL_take 0 (oi := ?zo1) (v := ?zv1) ?zhi1 (by kernel_rfl) (by kernel_rfl) (by kernel_rfl) (by kernel_rfl) (by kernel_rfl) (by kernel_rfl) ?zq1 (Or.inl ⟨?zwa1, ?zy1⟩) hS ?zrest1
            case zhi1 => simp only [List.getElem?_toArray, List.getElem?_cons_zero, List.getElem?_cons_succ]; rfl
            case zwa1 => rfl
            case zy1 => intro wz hz; obtain ⟨z1, z2, z3⟩ := hz; go_simp <;> rfl
            case zq1 => exact fun _ _ _ h => h
            simp only [Act.put, List.setIfInBounds_toArray, List.set_cons_zero, List.set_cons_succ]
            refine anyL_take 1 (oi := ?zo2) (v := ?zv2) ?zhi2 (by kernel_rfl) (by kernel_rfl) (by kernel_rfl) (by kernel_rfl) (by kernel_rfl) (by kernel_rfl) ?zq2 (Or.inl ⟨?zwa2, ?zy2⟩) hS ?zrest2
            case zhi2 => simp only [List.getElem?_toArray, List.getElem?_cons_zero, List.getElem?_cons_succ]; rfl
            case zwa2 => rfl
            case zy2 => intro wz hz; obtain ⟨z1, z2, z3⟩ := hz; go_simp <;> rfl
            case zq2 => exact fun _ _ _ h => h
            simp only [Act.put, List.setIfInBounds_toArray, List.set_cons_zero, List.set_cons_succ]
            refine anyL_take 2 (oi := ?zo3) (v := ?zv3) ?zhi3 (by kernel_rfl) (by kernel_rfl) (by kernel_rfl) (by kernel_rfl) (by kernel_rfl) (by kernel_rfl) ?zq3 (Or.inl ⟨?zwa3, ?zy3⟩) hS ?zrest3
            case zhi3 => simp only [List.getElem?_toArray, List.getElem?_cons_zero, List.getElem?_cons_succ]; rfl
            case zwa3 => rfl
            case zy3 => intro wz hz; obtain ⟨z1, z2, z3⟩ := hz; go_simp <;> rfl
            case zq3 => exact fun _ _ _ h => h
            simp only [Act.put, List.setIfInBounds_toArray, List.set_cons_zero, List.set_cons_succ]
            refine anyL_take 3 (oi := ?zo4) (v := ?zv4) ?zhi4 (by kernel_rfl) (by kernel_rfl) (by kernel_rfl) (by kernel_rfl) (by kernel_rfl) (by kernel_rfl) ?zq4 (Or.inl ⟨?zwa4, ?zy4⟩) hS ?zrest4
            case zhi4 => simp only [List.getElem?_toArray, List.getElem?_cons_zero, List.getElem?_cons_succ]; rfl
            case zwa4 => rfl
            case zy4 => intro wz hz; obtain ⟨z1, z2, z3⟩ := hz; go_simp <;> rfl
            case zq4 => exact fun _ _ _ h => h
            simp only [Act.put, List.setIfInBounds_toArray, List.set_cons_zero, List.set_cons_succ]
            refine anyL_take 4 (oi := ?zo5) (v := ?zv5) ?zhi5 (by kernel_rfl) (by kernel_rfl) (by kernel_rfl) (by kernel_rfl) (by kernel_rfl) (by kernel_rfl) ?zq5 (Or.inl ⟨?zwa5, ?zy5⟩) hS ?zrest5
            case zhi5 => simp only [List.getElem?_toArray, List.getElem?_cons_zero, List.getElem?_cons_succ]; rfl
            case zwa5 => rfl
            case zy5 => intro wz hz; obtain ⟨z1, z2, z3⟩ := hz; go_simp <;> rfl
            case zq5 => exact fun _ _ _ h => h
            simp only [Act.put, List.setIfInBounds_toArray, List.set_cons_zero, List.set_cons_succ]
            refine anyL_one 5 (o := ?zo6) (by kernel_rfl) ?zhi6 (by kernel_rfl) ?zst6
            case zhi6 => simp only [List.getElem?_toArray, List.getElem?_cons_zero, List.getElem?_cons_succ]; rfl
            intro K hK
            go_simp
            refine hK.out _ _ ⟨(World.cell?_of_block (a := ⟨w.heap.size, k, none⟩) (heap_alloc_old W2.drew _ HAW2.out.lt)).trans hcW, (World.cell?_of_block (a := ⟨sb, 0, none⟩) (heap_alloc_old W2.drew _ (World.block_lt_of_cell? W2 _ s0))).trans s0, (World.cell?_of_block (a := ⟨sb, 1, none⟩) (heap_alloc_old W2.drew _ (World.block_lt_of_cell? W2 _ s1))).trans s1⟩ (fun hS2 => ?_)
            clear hK K hS
            refine anyL_one 6 (o := ?zoA12) (by kernel_rfl) ?zhiA12 (by kernel_rfl) ?zstA12
            case zhiA12 => simp only [List.getElem?_toArray, List.getElem?_cons_zero, List.getElem?_cons_succ]; rfl
            intro K hK
            rw [if_pos (by rfl)]
            refine wp_append_heir _ (.tmp 69) (.tmp 71) 35 rfl (w.heap.size + 1) 34 i0 _ 2 16 Tryz.underlying35 hi hz0 hz1 hz2 rfl (by decide) (.slice (some ⟨g, 0, none⟩) (lf k).length sc) (lf k).length (samCells (lf k)) rfl (own_alloc (own_drewN HOW.out 1) _) ⟨W2.heap.size, 0, none⟩ 1 1 [.int .i64 T, .int .u64 bi] rfl rfl (cells_new W2.drew _ _) (one_two rfl rfl) (by unfold maxLen; omega) (by omega) (by have := HAW2.out.lt; simp; omega) ?_
            intro v' w5 ho5 hg5 hh5
            obtain ⟨sa', sc', rfl⟩ := own_shape ho5
            have hne5 : ∀ q, q = w.heap.size ∨ q = sb → some q ≠ (Value.slice (some ⟨g, 0, none⟩) (lf k).length sc).ownBlock := fun q hq e => by have := hsbne q e.symm; omega
            have hb5 : ∀ q, q = w.heap.size ∨ q = sb → w5.heap[q]? = W2.heap[q]? := fun q hq => by
              have hqW : q < W2.heap.size := by
                rcases hq with rfl | rfl
                · exact HAW2.out.lt
                · exact World.block_lt_of_cell? W2 _ s0
              rw [hg5.block q (by simp; omega) (hne5 q hq)]
              exact heap_alloc_old W2.drew _ hqW
            have hc5 := (World.cell?_of_block (a := ⟨w.heap.size, k, none⟩) (hb5 _ (.inl rfl))).trans hcW
            have fr5 := (World.frozen?_of_block (a := ⟨w.heap.size, k, none⟩) (hb5 _ (.inl rfl))).trans frW
            refine hK.out _ _ ⟨hc5, (World.cell?_of_block (a := ⟨sb, 0, none⟩) (hb5 _ (.inr rfl))).trans s0, (World.cell?_of_block (a := ⟨sb, 1, none⟩) (hb5 _ (.inr rfl))).trans s1⟩ (fun hS3 => ?_)
            have HA5 := hide (((HAW2.out.drew).alloc (.cells #[.int .i64 T, .int .u64 bi] 34)).step (x := (T, bi)) hk4 ho5 (by rw [HV.out]; exact hg5) (by rw [HV.out]; exact hh5))
            have HB5 : Hid (Below w.heap.size w (w5.setCell ⟨w.heap.size, k, none⟩ (.slice sa' ((lf k).length + 1) sc'))) := (below_grownAt (HBW2.out.drew.alloc HBW2.out.size (.cells #[.int .i64 T, .int .u64 bi] 34)) hg5 (by have := HBW2.out.size; show _ ≤ (W2.drew.alloc _).heap.size; simp; omega) (fun q e => by have := hsbne q e; omega)).setCell (p := ⟨w.heap.size, k, none⟩) (Nat.le_refl _) _
            clear hK K hS2 hb5 hne5 ho5 hg5 hh5 HAW2 HBW2 HOW hcW frW s0 s1 hsbne
            simp only [Act.put, List.setIfInBounds_toArray, List.set_cons_zero, List.set_cons_succ]
            refine anyL_take 7 (oi := ?zo7) (v := ?zv7) ?zhi7 (by kernel_rfl) (by kernel_rfl) (by kernel_rfl) (by kernel_rfl) (by kernel_rfl) (by kernel_rfl) ?zq7 (Or.inl ⟨?zwa7, ?zy7⟩) hS3 ?zrest7
            case zhi7 => simp only [List.getElem?_toArray, List.getElem?_cons_zero, List.getElem?_cons_succ]; rfl
            case zwa7 => rfl
            case zy7 => intro wz hz; obtain ⟨z1, z2, z3⟩ := hz; go_simp <;> rfl
            case zq7 => exact fun _ _ _ h => h
            simp only [Act.put, List.setIfInBounds_toArray, List.set_cons_zero, List.set_cons_succ]
            refine anyL_last 8 (o := ?zo8) (by kernel_rfl) ?zhi8 (by kernel_rfl) (by kernel_rfl) ?zst8
            case zhi8 => simp only [List.getElem?_toArray, List.getElem?_cons_zero, List.getElem?_cons_succ]; rfl
            intro K hK
            go_simp
            refine hK.out _ _ ?_
            clear hK K hS3
            go_wp2
            go_roundw
            case rel => exact ⟨m + 1, _, _, by omega, by go_num, HA5.out, HLf.out, HB5.out⟩
            case measure => simp [intOf]; omega
        · go_wp2
          have s0 := HS0.out
          have s1 := HS1.out
          have HLf : Hid (∀ j, j < 4 → GoodL (if j = k then lf k ++ [(ti, bi)] else lf j)) := fun j hj => by
            by_cases e : j = k
            · rw [if_pos e]; exact hGk.snoc (by omega) ⟨hxr.2.2.1, hxr.2.2.2.1, hxr.2.2.2.2⟩ (fun x hx => by rw [List.getElem?_eq_none (by omega)] at hx; cases hx)
            · rw [if_neg e]; exact HG.out j hj
          have hcW := (HV.out ▸ HAW.out.cell k hk4 : W.cell? ⟨w.heap.size, k, none⟩ = some (.slice sa (lf k).length sc))
          have frW := HAW.out.fr k
          have hsbne : ∀ q, (Value.slice sa (lf k).length sc).ownBlock = some q → w.heap.size + 1 ≤ q ∧ q < sb := fun q e => by
            have h1 := HO.out
            rw [HV.out] at h1
            have h2 := World.ownsRow.lt h1 q e
            exact ⟨h2.1, by rw [← hsb]; exact h2.2⟩
          have HOW : Hid (W.ownsRow (w.heap.size + 1) 34 2 (.slice sa (lf k).length sc) (lf k).length (samCells (lf k))) := by
            have h1 := HAW.out.own k hk4
            rw [HV.out] at h1; exact h1
          refine region_anyL (S := fun w' => w'.cell? ⟨w.heap.size, k, none⟩ = some (.slice sa (lf k).length sc) ∧ w'.cell? ⟨sb, 0, none⟩ = some (.int .i64 ti) ∧ w'.cell? ⟨sb, 1, none⟩ = some (.int .u64 (bi : Nat))) 8 (by kernel_rfl) ⟨hcW, s0, s1⟩ (fun hS => ?_)
          refine anyL_take 0 (oi := ?zo9) (v := ?zv9) ?zhi9 (by kernel_rfl) (by kernel_rfl) (by kernel_rfl) (by kernel_rfl) (by kernel_rfl) (by kernel_rfl) ?zq9 (Or.inl ⟨?zwa9, ?zy9⟩) hS ?zrest9
          case zhi9 => simp only [List.getElem?_toArray, List.getElem?_cons_zero, List.getElem?_cons_succ]; rfl
          case zwa9 => rfl
          case zy9 => intro wz hz; obtain ⟨z1, z2, z3⟩ := hz; go_simp <;> rfl
          case zq9 => exact fun _ _ _ h => h
          simp only [Act.put, List.setIfInBounds_toArray, List.set_cons_zero, List.set_cons_succ]
          refine anyL_take 1 (oi := ?zo10) (v := ?zv10) ?zhi10 (by kernel_rfl) (by kernel_rfl) (by kernel_rfl) (by kernel_rfl) (by kernel_rfl) (by kernel_rfl) ?zq10 (Or.inl ⟨?zwa10, ?zy10⟩) hS ?zrest10
          case zhi10 => simp only [List.getElem?_toArray, List.getElem?_cons_zero, List.getElem?_cons_succ]; rfl
          case zwa10 => rfl
          case zy10 => intro wz hz; obtain ⟨z1, z2, z3⟩ := hz; go_simp <;> rfl
          case zq10 => exact fun _ _ _ h => h
          simp only [Act.put, List.setIfInBounds_toArray, List.set_cons_zero, List.set_cons_succ]
          refine anyL_take 2 (oi := ?zo11) (v := ?zv11) ?zhi11 (by kernel_rfl) (by kernel_rfl) (by kernel_rfl) (by kernel_rfl) (by kernel_rfl) (by kernel_rfl) ?zq11 (Or.inl ⟨?zwa11, ?zy11⟩) hS ?zrest11
          case zhi11 => simp only [List.getElem?_toArray, List.getElem?_cons_zero, List.getElem?_cons_succ]; rfl
          case zwa11 => rfl
          case zy11 => intro wz hz; obtain ⟨z1, z2, z3⟩ := hz; go_simp <;> rfl
          case zq11 => exact fun _ _ _ h => h
          simp only [Act.put, List.setIfInBounds_toArray, List.set_cons_zero, List.set_cons_succ]
          refine anyL_take 3 (oi := ?zo12) (v := ?zv12) ?zhi12 (by kernel_rfl) (by kernel_rfl) (by kernel_rfl) (by kernel_rfl) (by kernel_rfl) (by kernel_rfl) ?zq12 (Or.inl ⟨?zwa12, ?zy12⟩) hS ?zrest12
          case zhi12 => simp only [List.getElem?_toArray, List.getElem?_cons_zero, List.getElem?_cons_succ]; rfl
          case zwa12 => rfl
          case zy12 => intro wz hz; obtain ⟨z1, z2, z3⟩ := hz; go_simp <;> rfl
          case zq12 => exact fun _ _ _ h => h
          simp only [Act.put, List.setIfInBounds_toArray, List.set_cons_zero, List.set_cons_succ]
          refine anyL_take 4 (oi := ?zo13) (v := ?zv13) ?zhi13 (by kernel_rfl) (by kernel_rfl) (by kernel_rfl) (by kernel_rfl) (by kernel_rfl) (by kernel_rfl) ?zq13 (Or.inl ⟨?zwa13, ?zy13⟩) hS ?zrest13
          case zhi13 => simp only [List.getElem?_toArray, List.getElem?_cons_zero, List.getElem?_cons_succ]; rfl
          case zwa13 => rfl
          case zy13 => intro wz hz; obtain ⟨z1, z2, z3⟩ := hz; go_simp <;> rfl
          case zq13 => exact fun _ _ _ h => h
          simp only [Act.put, List.setIfInBounds_toArray, List.set_cons_zero, List.set_cons_succ]
          refine anyL_one 5 (o := ?zo14) (by kernel_rfl) ?zhi14 (by kernel_rfl) ?zst14
          case zhi14 => simp only [List.getElem?_toArray, List.getElem?_cons_zero, List.getElem?_cons_succ]; rfl
          intro K hK
          go_simp
          refine hK.out _ _ ⟨(World.cell?_of_block (a := ⟨w.heap.size, k, none⟩) (heap_alloc_old W.drew _ HAW.out.lt)).trans hcW, (World.cell?_of_block (a := ⟨sb, 0, none⟩) (heap_alloc_old W.drew _ (World.block_lt_of_cell? W _ s0))).trans s0, (World.cell?_of_block (a := ⟨sb, 1, none⟩) (heap_alloc_old W.drew _ (World.block_lt_of_cell? W _ s1))).trans s1⟩ (fun hS2 => ?_)
          clear hK K hS
          refine anyL_one 6 (o := ?zoA10) (by kernel_rfl) ?zhiA10 (by kernel_rfl) ?zstA10
          case zhiA10 => simp only [List.getElem?_toArray, List.getElem?_cons_zero, List.getElem?_cons_succ]; rfl
          intro K hK
          rw [if_pos (by rfl)]
          refine wp_append_heir _ (.tmp 69) (.tmp 71) 35 rfl (w.heap.size + 1) 34 i0 _ 2 16 Tryz.underlying35 hi hz0 hz1 hz2 rfl (by decide) (.slice sa (lf k).length sc) (lf k).length (samCells (lf k)) rfl (own_alloc (own_drewN HOW.out 1) _) ⟨W.heap.size, 0, none⟩ 1 1 [.int .i64 ti, .int .u64 bi] rfl rfl (cells_new W.drew _ _) (one_two rfl rfl) (by unfold maxLen; omega) (by omega) (by have := HAW.out.lt; simp; omega) ?_
          intro v' w5 ho5 hg5 hh5
          obtain ⟨sa', sc', rfl⟩ := own_shape ho5
          have hne5 : ∀ q, q = w.heap.size ∨ q = sb → some q ≠ (Value.slice sa (lf k).length sc).ownBlock := fun q hq e => by have := hsbne q e.symm; omega
          have hb5 : ∀ q, q = w.heap.size ∨ q = sb → w5.heap[q]? = W.heap[q]? := fun q hq => by
            have hqW : q < W.heap.size := by
              rcases hq with rfl | rfl
              · exact HAW.out.lt
              · exact World.block_lt_of_cell? W _ s0
            rw [hg5.block q (by simp; omega) (hne5 q hq)]
            exact heap_alloc_old W.drew _ hqW
          have hc5 := (World.cell?_of_block (a := ⟨w.heap.size, k, none⟩) (hb5 _ (.inl rfl))).trans hcW
          have fr5 := (World.frozen?_of_block (a := ⟨w.heap.size, k, none⟩) (hb5 _ (.inl rfl))).trans frW
          refine hK.out _ _ ⟨hc5, (World.cell?_of_block (a := ⟨sb, 0, none⟩) (hb5 _ (.inr rfl))).trans s0, (World.cell?_of_block (a := ⟨sb, 1, none⟩) (hb5 _ (.inr rfl))).trans s1⟩ (fun hS3 => ?_)
          have HA5 := hide (((HAW.out.drew).alloc (.cells #[.int .i64 ti, .int .u64 bi] 34)).step (x := (ti, bi)) hk4 ho5 (by rw [HV.out]; exact hg5) (by rw [HV.out]; exact hh5))
          have HB5 : Hid (Below w.heap.size w (w5.setCell ⟨w.heap.size, k, none⟩ (.slice sa' ((lf k).length + 1) sc'))) := (below_grownAt (HBW.out.drew.alloc HBW.out.size (.cells #[.int .i64 ti, .int .u64 bi] 34)) hg5 (by have := HBW.out.size; show _ ≤ (W.drew.alloc _).heap.size; simp; omega) (fun q e => by have := hsbne q e; omega)).setCell (p := ⟨w.heap.size, k, none⟩) (Nat.le_refl _) _
          clear hK K hS2 hb5 hne5 ho5 hg5 hh5 HAW HBW HOW hcW frW s0 s1 hsbne
          simp only [Act.put, List.setIfInBounds_toArray, List.set_cons_zero, List.set_cons_succ]
          refine anyL_take 7 (oi := ?zo15) (v := ?zv15) ?zhi15 (by kernel_rfl) (by kernel_rfl) (by kernel_rfl) (by kernel_rfl) (by kernel_rfl) (by kernel_rfl) ?zq15 (Or.inl ⟨?zwa15, ?zy15⟩) hS3 ?zrest15
          case zhi15 => simp only [List.getElem?_toArray, List.getElem?_cons_zero, List.getElem?_cons_succ]; rfl
          case zwa15 => rfl
          case zy15 => intro wz hz; obtain ⟨z1, z2, z3⟩ := hz; go_simp <;> rfl
          case zq15 => exact fun _ _ _ h => h
          simp only [Act.put, List.setIfInBounds_toArray, List.set_cons_zero, List.set_cons_succ]
          refine anyL_last 8 (o := ?zo16) (by kernel_rfl) ?zhi16 (by kernel_rfl) (by kernel_rfl) ?zst16
          case zhi16 => simp only [List.getElem?_toArray, List.getElem?_cons_zero, List.getElem?_cons_succ]; rfl
          intro K hK
          go_simp
          refine hK.out _ _ ?_
          clear hK K hS3
          go_wp2
          go_roundw
          case rel => exact ⟨m + 1, _, _, by omega, by go_num, HA5.out, HLf.out, HB5.out⟩
          case measure => simp [intOf]; omega
    · have HA2 := hide hA
      clear hA hG hBl HC HRg
      go_wp2
      go_loopw [10, 11] (fun o i wr => ∃ n : Nat, n ≤ 4 ∧ i = .int .i64 n ∧ EntsF wr w.heap.size o (kbs lf n) ∧ AllAt wr w.heap.size vf lf ∧ (∀ j, j < 4 → Off (vf j) o) ∧ Below w.heap.size w wr) (fun _ i _ => 4 - (intOf i).toNat)
      case atStart => exact ⟨0, Nat.zero_le _, rfl, ⟨[], rfl, World.ownsRow_nil _ _ _ _, fun i p x h => by simp at h, fun i p h => by simp at h⟩, HA.out, fun j hj k e e' => (by cases e'), HBl.out⟩
      case round =>
        obtain ⟨n, hn, rfl, hE, hA, hoff, hBl⟩ := hrel
        have HE := hide hE
        have HA := hide hA
        have HOff := hide hoff
        have HBl := hide hBl
        have hsz := hBl.size
        by_cases hlt4 : n < 4
        · obtain ⟨sa, sc, hvk⟩ := own_shape (hA.own n hlt4)
          have hcell := hA.cell n hlt4
          rw [hvk] at hcell
          have HV := hide hvk
          have hk4i : (n : Int) < 4 := by omega
          have hlen := (HG.out n hlt4).len
          clear hE hA hoff hBl hvk
          by_cases h0 : 0 < (lf n).length
          · have HK : Hid (kbs lf (n + 1) = kbs lf n ++ [(labsOf n, lf n)]) := if_pos h0
            have CL := hide (fun W => klabels_any n W hlt4)
            have h0i : (0 : Int) < ((lf n).length : Int) := by omega
            go_wp2
            refine region_anyL (S := fun w' => w'.cell? ⟨w.heap.size, n, none⟩ = some (.slice sa (lf n).length sc) ∧ True ∧ True) 9 (by kernel_rfl) ⟨hcell, trivial, trivial⟩ (fun hS => ?_)
            refine anyL_take 0 (oi := ?zo201) (v := ?zv201) ?zhi201 (by kernel_rfl) (by kernel_rfl) (by kernel_rfl) (by kernel_rfl) (by kernel_rfl) (by kernel_rfl) ?zq201 (Or.inl ⟨?zwa201, ?zy201⟩) hS ?zrest201
            case zhi201 => simp only [List.getElem?_toArray, List.getElem?_cons_zero, List.getElem?_cons_succ]; rfl
            case zwa201 => rfl
            case zy201 => intro wz hz; obtain ⟨z1, z2, z3⟩ := hz; go_simp <;> rfl
            case zq201 => exact fun _ _ _ h => h
            simp only [Act.put, List.setIfInBounds_toArray, List.set_cons_zero, List.set_cons_succ]
            refine anyL_take 1 (oi := ?zo202) (v := ?zv202) ?zhi202 (by kernel_rfl) (by kernel_rfl) (by kernel_rfl) (by kernel_rfl) (by kernel_rfl) (by kernel_rfl) ?zq202 (Or.inl ⟨?zwa202, ?zy202⟩) hS ?zrest202
            case zhi202 => simp only [List.getElem?_toArray, List.getElem?_cons_zero, List.getElem?_cons_succ]; rfl
            case zwa202 => rfl
            case zy202 => intro wz hz; obtain ⟨z1, z2, z3⟩ := hz; go_simp <;> rfl
            case zq202 => exact fun _ _ _ h => h
            simp only [Act.put, List.setIfInBounds_toArray, List.set_cons_zero, List.set_cons_succ]
            refine anyL_take 3 (oi := ?zo203) (v := ?zv203) ?zhi203 (by kernel_rfl) (by kernel_rfl) (by kernel_rfl) (by kernel_rfl) (by kernel_rfl) (by kernel_rfl) ?zq203 (Or.inl ⟨?zwa203, ?zy203⟩) hS ?zrest203
            case zhi203 => simp only [List.getElem?_toArray, List.getElem?_cons_zero, List.getElem?_cons_succ]; rfl
            case zwa203 => rfl
            case zy203 => intro wz hz; obtain ⟨z1, z2, z3⟩ := hz; go_simp <;> rfl
            case zq203 => exact fun _ _ _ h => h
            simp only [Act.put, List.setIfInBounds_toArray, List.set_cons_zero, List.set_cons_succ]
            refine anyL_take 4 (oi := ?zo204) (v := ?zv204) ?zhi204 (by kernel_rfl) (by kernel_rfl) (by kernel_rfl) (by kernel_rfl) (by kernel_rfl) (by kernel_rfl) ?zq204 (Or.inl ⟨?zwa204, ?zy204⟩) hS ?zrest204
            case zhi204 => simp only [List.getElem?_toArray, List.getElem?_cons_zero, List.getElem?_cons_succ]; rfl
            case zwa204 => rfl
            case zy204 => intro wz hz; obtain ⟨z1, z2, z3⟩ := hz; go_simp <;> rfl
            case zq204 => exact fun _ _ _ h => h
            simp only [Act.put, List.setIfInBounds_toArray, List.set_cons_zero, List.set_cons_succ]
            refine anyL_take 5 (oi := ?zo205) (v := ?zv205) ?zhi205 (by kernel_rfl) (by kernel_rfl) (by kernel_rfl) (by kernel_rfl) (by kernel_rfl) (by kernel_rfl) ?zq205 (Or.inl ⟨?zwa205, ?zy205⟩) hS ?zrest205
            case zhi205 => simp only [List.getElem?_toArray, List.getElem?_cons_zero, List.getElem?_cons_succ]; rfl
            case zwa205 => rfl
            case zy205 => intro wz hz; obtain ⟨z1, z2, z3⟩ := hz; go_simp <;> rfl
            case zq205 => exact fun _ _ _ h => h
            simp only [Act.put, List.setIfInBounds_toArray, List.set_cons_zero, List.set_cons_succ]
            refine anyL_one 2 (o := ?zo206) (by kernel_rfl) ?zhi206 (by kernel_rfl) ?zst206
            case zhi206 => simp only [List.getElem?_toArray, List.getElem?_cons_zero, List.getElem?_cons_succ]; rfl
            intro K hK
            go_simp
            refine (CL.out _).mono ?_
            rintro e w3 ⟨lv, rfl, hL3, hLb3, hb3⟩
            obtain ⟨la, lc, rfl, _⟩ := id hL3
            obtain ⟨vals, hvl, hvo, hve, hvlo⟩ := HE.out
            have hul : ∀ k, u10.ownBlock = some k → w.heap.size + 1 ≤ k ∧ k < wr.heap.size := fun k e => World.ownsRow.lt hvo k e
            have hb3' : Below wr.heap.size wr w3 := ((Below.refl wr.heap.size wr).drew).trans hb3
            have hs3 := hb3'.size
            have haw : w.heap.size < wr.heap.size := HA.out.lt
            have hcell3 := (World.cell?_of_block (a := ⟨w.heap.size, n, none⟩) (hb3'.block _ haw)).trans hcell
            have HO3 := hide (own_kept hvo (w' := w3) fun k e => hb3'.block k (hul k e).2)
            have HL3 := hide hL3
            have HLb3 : Hid (∀ k, (Value.slice la (labsOf n).length lc).ownBlock = some k → wr.heap.size ≤ k ∧ k < w3.heap.size) := hLb3
            have HB3 := hide hb3'
            have HVE := hide hve
            have HVL := hide hvl
            have HVLo := hide hvlo
            have HUL := hide hul
            refine hK.out _ _ ⟨hcell3, trivial, trivial⟩ (fun hS2 => ?_)
            clear hK K hS hL3 hLb3 hb3 hb3' hvl hvo hve hvlo hul CL hcell HE
            refine anyL_take 6 (oi := ?zo207) (v := ?zv207) ?zhi207 (by kernel_rfl) (by kernel_rfl) (by kernel_rfl) (by kernel_rfl) (by kernel_rfl) (by kernel_rfl) ?zq207 (Or.inl ⟨?zwa207, ?zy207⟩) hS2 ?zrest207
            case zhi207 => simp only [List.getElem?_toArray, List.getElem?_cons_zero, List.getElem?_cons_succ]; rfl
            case zwa207 => rfl
            case zy207 => intro wz hz; obtain ⟨z1, z2, z3⟩ := hz; go_simp <;> rfl
            case zq207 => exact fun _ _ _ h => h
            simp only [Act.put, List.setIfInBounds_toArray, List.set_cons_zero, List.set_cons_succ]
            refine anyL_one 7 (o := ?zo208) (by kernel_rfl) ?zhi208 (by kernel_rfl) ?zst208
            case zhi208 => simp only [List.getElem?_toArray, List.getElem?_cons_zero, List.getElem?_cons_succ]; rfl
            intro K hK
            go_simp
            refine hK.out _ _ ⟨(World.cell?_of_block (a := ⟨w.heap.size, n, none⟩) (heap_alloc_old w3 _ (Nat.lt_of_lt_of_le haw hs3))).trans hcell3, trivial, trivial⟩ (fun hS3 => ?_)
            clear hK K hS2
            refine anyL_one 8 (o := ?zoB) (by kernel_rfl) ?zhiB (by kernel_rfl) ?zstB
            case zhiB => simp only [List.getElem?_toArray, List.getElem?_cons_zero, List.getElem?_cons_succ]; rfl
            intro K hK
            rw [if_pos (by rfl)]
            refine wp_append_heir _ (.tmp 83) (.tmp 90) 39 rfl (w.heap.size + 1) 38 i1 _ 2 48 Tryz.underlying39 hi1 hy0 hy1 hy2 rfl (by decide) u10 (kbs lf n).length (serCells vals) rfl (own_alloc HO3.out _) ⟨w3.heap.size, 0, none⟩ 1 1 [.slice la (labsOf n).length lc, .slice sa (lf n).length sc] rfl rfl (cells_new w3 _ _) (one_two rfl rfl) (by have := kbs_len lf n; unfold maxLen; omega) (by have := kbs_len lf n; omega) (by simp; omega) ?_
            intro v' w5 ho5 hg5 hh5
            have hsz5 : w3.heap.size + 1 ≤ w5.heap.size := by have := hg5.size; simpa using this
            have hb5 : ∀ k, k < w3.heap.size → some k ≠ u10.ownBlock → w5.heap[k]? = w3.heap[k]? := fun k hk hne => (hg5.block k (by simp; omega) hne).trans (heap_alloc_old w3 _ hk)
            have hb5r : ∀ k, k < wr.heap.size → some k ≠ u10.ownBlock → w5.heap[k]? = wr.heap[k]? := fun k hk hne => (hb5 k (by omega) hne).trans (HB3.out.block k hk)
            have hsa : Heir w3 u10 v' := hh5.of_alloc
            have HA5 := hide (HA.out.other hb5r (fun e => by have := (HUL.out _ e.symm).1; omega) HOff.out)
            have HOff5 : Hid (∀ j, j < 4 → Off (vf j) v') := fun j hj => off_heir (HOff.out j hj) hsa (fun k e => by have := (World.ownsRow.lt (HA.out.own j hj) k e).2; omega)
            have hent : Ent w5 v' (.slice la (labsOf n).length lc, .slice sa (lf n).length sc) (labsOf n, lf n) := by
              refine ⟨labs_kept HL3.out (fun k e => hb5 k (HLb3.out k e).2 (fun e' => by have h1 := (HLb3.out k e).1; have h2 := (HUL.out k e'.symm).2; omega)) (by omega), ?_, ?_, ?_, fun k e => by have := (HLb3.out k e).2; omega, fun k e => ?_⟩
              · have h1 := samples_at (HA5.out.own n hlt4) (HG.out n hlt4).range
                rw [HV.out] at h1; exact h1
              · exact off_heir (fun k e e' => by have h1 := (HLb3.out k e).1; have h2 := (HUL.out k e').2; omega) hsa (fun k e => (HLb3.out k e).2)
              · have h1 := HOff5.out n hlt4
                rw [HV.out] at h1; exact h1
              · have h1 := HA5.out.own n hlt4
                rw [HV.out] at h1
                exact (World.ownsRow.lt h1 k e).2
            have HE5 : Hid (EntsF w5 w.heap.size v' (kbs lf (n + 1))) := by
              rw [HK.out]
              exact EntsF.snoc HVL.out HVE.out ho5 hb5r (by omega) hsa (by omega) hent HVLo.out ⟨fun k e => by have := (HLb3.out k e).1; omega, fun k e => by
                have h1 := HA5.out.own n hlt4
                rw [HV.out] at h1
                have := (World.ownsRow.lt h1 k e).1
                omega⟩
            have HB5 : Hid (Below w.heap.size w w5) := below_grownAt ((HBl.out.trans (HB3.out.mono (by omega))).alloc (by omega) _) hg5 (by simp; omega) (fun k e => by have := (HUL.out k e).1; omega)
            refine hK.out _ _ ⟨(World.cell?_of_block (a := ⟨w.heap.size, n, none⟩) (hb5 _ (Nat.lt_of_lt_of_le haw hs3) (fun e => by have : w.heap.size + 1 ≤ w.heap.size := (HUL.out w.heap.size e.symm).1; omega))).trans hcell3, trivial, trivial⟩ (fun hS4 => ?_)
            clear hK K hS3 hent hb5 hb5r hsa ho5 hg5 hh5 HO3 HL3 HLb3 HB3 HVE HVL HUL HK HA HBl hcell3
            simp only [Act.put, List.setIfInBounds_toArray, List.set_cons_zero, List.set_cons_succ]
            refine anyL_last 9 (o := ?zo209) (by kernel_rfl) ?zhi209 (by kernel_rfl) (by kernel_rfl) ?zst209
            case zhi209 => simp only [List.getElem?_toArray, List.getElem?_cons_zero, List.getElem?_cons_succ]; rfl
            intro K hK
            go_simp
            refine hK.out _ _ ?_
            clear hK K hS4
            go_wp2
            go_roundw
            case rel => exact ⟨n + 1, by omega, by go_num, HE5.out, HA5.out, HOff5.out, HB5.out⟩
            case measure => simp [intOf]; omega
          · have HK : Hid (kbs lf (n + 1) = kbs lf n) := if_neg h0
            have h0i : ¬ (0 : Int) < ((lf n).length : Int) := by omega
            go_wp2
            go_roundw
            case rel => exact ⟨n + 1, by omega, by go_num, by rw [HK.out]; exact HE.out, HA.out, HOff.out, HBl.out⟩
            case measure => simp [intOf]; omega
        · have hn4 : n = 4 := by omega
          subst hn4
          clear hE hA hoff hBl
          go_wp2
          go_ret
          have hok := kbs_ok lf HG.out
          exact ⟨_, kbs lf 4, rfl, HE.out.freshB, hok.1, hok.2.1, hok.2.2, kbs_kb lf HG.out, HBl.out⟩
end Go.Proofs.YtamcclcbmenjdaaGreatDoor

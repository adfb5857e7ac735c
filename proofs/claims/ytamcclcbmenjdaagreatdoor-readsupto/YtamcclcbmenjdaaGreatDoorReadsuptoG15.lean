/- 'choirlaw.Reads', for any list of texts of bulk at most 1048576: Decode answers the document's batch or error, one behind the other; lists that came out are their owner's own. The second form's statement and its card: its only condition is the row's own bound on the argument's bulk. -/
import Derived.Test.YtamcclcbmenjdaaGreatDoorReadsuptoG14
import Derived.Test.YtamcclcbmenjdaaGreatDoorReadsuptoG10
/- unpackPayload. -/
namespace Go.Proofs.YtamcclcbmenjdaaGreatDoor
open Go.RowKit Go.Lib

theorem texts_at {base : Nat} {w : World} {v : Value} {l : List ByteArray} (h : w.ownsRow base 9 1 v l.length (Strs l)) (hb : 0 < w.heap.size) : ∃ tb, TextsAt w v tb l ∧ tb < w.heap.size ∧ (tb = 0 ∨ base ≤ tb) := by
  have hlt := fun k e => World.ownsRow.lt h k e
  rcases h.2 with ⟨rfl, h0⟩ | ⟨g, cap, cur, rfl, hg, hh, hc, _⟩
  · exact ⟨0, ⟨.inl ⟨List.eq_nil_of_length_eq_zero h0, _, _, rfl⟩⟩, hb, .inl rfl⟩
  · refine ⟨g, ⟨.inr ⟨0, cap, rfl, fun i x hx => ?_⟩⟩, (hlt g rfl).2, .inr hg⟩
    rw [Nat.zero_add]
    exact own_cell h (by simp [Strs, hx])
theorem YR.init {w : World} {s : ByteArray} : YR (w.alloc (.cells #[.string s, .int .i64 0] 161)) w.heap.size 0 s 0 :=
  ⟨World.cell?_alloc_new _ _ _ 0, World.cell?_alloc_new _ _ _ 1, World.frozen?_alloc_new _ _ _ 0, World.frozen?_alloc_new _ _ _ 1⟩

set_option maxRecDepth 100000 in
set_option maxHeartbeats 400000 in
theorem unpackPayload_any (s : ByteArray) (w : World) (hs : s.size ≤ 140737488355328) (hT : Tabs w) :
    Calls Tryz.prog 81 #[.string s] w fun e w' => ∃ v, e = .returned (.tuple #[v, .int .i64 (payR s).2.2]) ∧ FreshD w' w.heap.size v (payR s).1 ∧ Below w.heap.size w w' := by
  obtain ⟨i0, hi, hz0, hz1, hz2⟩ := info_parts Tryz.infoSer
  have h3 := hT.lt
  have hY0 := YR.init (w := w) (s := s)
  have hT0 := hT.alloc (.cells #[.string s, .int .i64 0] 161)
  have hS0 : Short 140737488355328 ((s, 0) : Rest) := ⟨hs, by omega⟩
  have C1 := hide (texts_any w.heap.size 0 (s, 0) _ hY0 hS0)
  have hS1 := short_texts hS0
  have HE : Hid (payR s = seqTo (serR (textsR (s, 0)).1) (numR (textsR (s, 0)).2.1 8 (textsR (s, 0)).2.2).2 (numR (textsR (s, 0)).2.1 8 (textsR (s, 0)).2.2).1) := rfl
  have htl : (textsR (s, 0)).1.length ≤ 64 := by
    unfold textsR; rw [seqTo_length]; exact num_nat (s, 0) 64
  generalize textsR (s, 0) = t at *
  obtain ⟨texts, p1⟩ := t
  simp only at C1 hS1 HE htl
  have HB0 : Hid (Below w.heap.size w (w.alloc (.cells #[.string s, .int .i64 0] 161))) := (Below.refl _ _).alloc (Nat.le_refl _) _
  have HT0 := hide hT0
  clear hY0 hT0 hS0 hT
  go_enter Tryz.func81, Tryz.ntmps81
  go_wp2_with fail
  refine C1.out.mono ?_
  rintro e w1 ⟨tv, rfl, hO1, hY1, hR1⟩
  have hT1 := HT0.out.rd hR1 (by omega)
  have HB1 := hide (below_rd HB0.out hR1 (by simp) (Nat.le_refl _))
  obtain ⟨tb, hTx, htbw, htb⟩ := texts_at hO1 (by have := hT1.lt; omega)
  have htb1 : tb ≠ w.heap.size := by
    rcases htb with h | h
    · omega
    · simp at h; omega
  obtain ⟨ta, tc, rfl⟩ := own_shape hO1
  have C2 := hide (number_is w.heap.size 0 p1.2 p1.1 8 w1 hY1 hS1.1)
  have hn : (numR p1.1 8 p1.2).1 ≤ 8 := num_nat p1 8
  have hS2 := short_num hS1 8
  generalize numR p1.1 8 p1.2 = r at *
  obtain ⟨n, p2⟩ := r
  simp only at C2 hn hS2 HE
  have HTx := hide hTx
  have HT1 := hide hT1
  clear hY1 hO1 hR1 hTx hT1 C1 HT0 HB0 hS1 htb
  go_wp2_with fail
  refine C2.out.mono ?_
  rintro e w2 ⟨rfl, hY2, hR2⟩
  have HTx2 := hide (HTx.out.kept (hR2.block tb htbw htb1))
  have HT2 := hide (HT1.out.rd hR2 (by omega))
  have HB2 := hide (below_rd HB1.out hR2 HB1.out.size (Nat.le_refl _))
  have htbw2 : tb < w2.heap.size := Nat.lt_of_lt_of_le htbw hR2.size
  have HY2 := hide hY2
  have hyw := hY2.lt
  clear hY2 hR2 C2 HTx HT1 HB1
  go_wp2_with (first | (at_make; refine wpList_make_own _ rfl _ _ 39 rfl (w.heap.size + 1) 38 i0 _ 2 Tryz.underlying39 hi hz0 hz1 .i64 .i64 _ n rfl rfl rfl (by rw [hz2]; omega) (by unfold maxLen; omega) (by omega) ?_; intro w3 hown3 hgrow3))
  have hsz3 := hgrow3.size
  have HTx3 := hide (HTx2.out.kept (hgrow3.block tb htbw2 (by simp)))
  have HT3 := hide (HT2.out.kept (hgrow3.block _ (by omega) (by simp)) (hgrow3.block _ (by omega) (by simp)))
  have HY3 := hide (HY2.out.grown hgrow3 (by simp))
  have HB3 := hide (below_grownAt HB2.out hgrow3 HB2.out.size (by simp))
  have HO3 := hide hown3
  have HSh := hide hS2
  generalize hg : w2.heap.size = g at *
  have hgw : g < w3.heap.size := (World.ownsRow.lt hown3 g rfl).2
  clear hown3 hgrow3 HTx2 HT2 HY2 HB2 hS2
  go_wp2
  go_loopw [7, 8, 16] (fun o _ i wr => ∃ (k : Nat) (vals : List (Value × Value)), k ≤ n ∧ i = .int .i64 k ∧ o = .slice (some ⟨g, 0, none⟩) k n ∧ wr.ownsRow (w.heap.size + 1) 38 2 (.slice (some ⟨g, 0, none⟩) k n) k (serCells vals) ∧ Sers wr (g + 1) vals (seqTo (serR texts) p2 k).1 ∧ Hid (Apt vals) ∧
      YR wr w.heap.size 0 (seqTo (serR texts) p2 k).2.1 (seqTo (serR texts) p2 k).2.2 ∧ TextsAt wr (.slice ta texts.length tc) tb texts ∧ Tabs wr ∧ Below w.heap.size w wr ∧ w3.heap.size ≤ wr.heap.size) (fun _ _ i _ => n - (intOf i).toNat)
  case atStart => exact ⟨0, [], Nat.zero_le _, rfl, rfl, HO3.out, Sers.nil _ _, List.Pairwise.nil, HY3.out, HTx3.out, HT3.out, HB3.out, Nat.le_refl _⟩
  case round =>
    obtain ⟨k, vals, hk, rfl, rfl, hO, hSr, HAp, hY, hTx, hTb, hB, hsz⟩ := hrel
    have HO := hide hO
    have HSr := hide hSr
    have HB := hide hB
    clear HO3 HY3 HTx3 HT3 HB3
    by_cases hlt : k < n
    · have hS := seqTo_inv (serR texts) (Short 140737488355328) (fun _ h => short_ser texts h) p2 HSh.out k
      have C3 := hide (labels_any w.heap.size 0 tb (seqTo (serR texts) p2 k).2 _ texts wr hY hS hTx htb1 (by omega) (by omega))
      have hS3 := short_labs texts hS
      have HX1 : Hid ((seqTo (serR texts) p2 (k + 1)).1 = (seqTo (serR texts) p2 k).1 ++ [((labsR texts (seqTo (serR texts) p2 k).2).1, (samplesR (labsR texts (seqTo (serR texts) p2 k).2).2).1)]) := rfl
      have HX2 : Hid ((seqTo (serR texts) p2 (k + 1)).2 = (samplesR (labsR texts (seqTo (serR texts) p2 k).2).2).2) := rfl
      generalize (seqTo (serR texts) p2 k).2 = q at *
      generalize (seqTo (serR texts) p2 k).1 = done at *
      generalize labsR texts q = a1 at *
      obtain ⟨l1, q1⟩ := a1
      simp only at C3 hS3 HX1 HX2
      have HTx := hide hTx
      have HTb := hide hTb
      have HSrA := hide HSr.out
      clear hO hSr hY hTx hTb hB hS
      go_wp2_with fail
      refine C3.out.mono ?_
      rintro e w4 ⟨lv, rfl, hO4, hY4, hR4⟩
      have hsz4 := hR4.size
      have HL4 := hide hO4
      have HLb : Hid (∀ k, lv.ownBlock = some k → wr.heap.size ≤ k) := fun k e => (World.ownsRow.lt hO4 k e).1
      have HO4 := hide (own_rd HO.out hR4 (by omega))
      have HSr4 := hide (HSr.out.kept fun j hj hjw => hR4.block j hjw (by omega))
      have HTx4 := hide (HTx.out.kept (hR4.block tb (by omega) htb1))
      have HTb4 := hide (HTb.out.rd hR4 (by omega))
      have HB4 := hide (below_rd HB.out hR4 HB.out.size (Nat.le_refl _))
      have C4 := hide (samples_any w.heap.size 0 q1 w4 hY4 hS3 HTb4.out (by omega))
      obtain ⟨la, lc, rfl⟩ := own_shape hO4
      generalize samplesR q1 = a2 at *
      obtain ⟨l2, q2⟩ := a2
      simp only at C4 HX1 HX2
      clear hO4 hY4 hR4 C3 HO HSr HTx HTb HB
      go_wp2_with fail
      refine C4.out.mono ?_
      rintro e w5 ⟨sv, rfl, hO5, hY5, hR5⟩
      have hsz5 := hR5.size
      have HMb : Hid (∀ k, sv.ownBlock = some k → wr.heap.size ≤ k) := fun k e => by have := (World.ownsRow.lt hO5 k e).1; omega
      have HM5 := hide (own_mono hO5 (show g + 1 ≤ w4.heap.size by omega))
      have HL5 := hide (own_mono (own_rd HL4.out hR5 (by omega)) (show g + 1 ≤ wr.heap.size by omega))
      have HO5 := hide (own_rd HO4.out hR5 (by omega))
      have HSr5 := hide (HSr4.out.kept fun j hj hjw => hR5.block j hjw (by omega))
      have HTx5 := hide (HTx4.out.kept (hR5.block tb (by omega) htb1))
      have HTb5 := hide (HTb4.out.rd hR5 (by omega))
      have HB5 := hide (below_rd HB4.out hR5 HB4.out.size (Nat.le_refl _))
      have HY5 := hide hY5
      have hyw5 := hY5.lt
      obtain ⟨sa, sc, rfl⟩ := own_shape hO5
      clear hO5 hY5 hR5 C4 HL4 HO4 HSr4 HTx4 HTb4 HB4
      go_wp2_with (first | (at_builtin; refine wpList_append_own_spare _ rfl (.tmp 20) (.tmp 24) 39 rfl (w.heap.size + 1) 38 i0 2 Tryz.underlying39 hi hz1 g k n _ rfl (own_alloc HO5.out _) ⟨w5.heap.size, 0, none⟩ 1 1 [.slice la l1.length lc, .slice sa l2.length sc] rfl rfl (cells_new _ _ _) (one_two rfl rfl) (by omega) ?_))
      intro w6 hown6 hgrow6
      have hsz6 : w5.heap.size + 1 ≤ w6.heap.size := by have := hgrow6.size; simpa using this
      have hkeep : ∀ j, j < w5.heap.size → j ≠ g → w6.heap[j]? = w5.heap[j]? := fun j hj hne => (hgrow6.block j (by simp; omega) (fun e => hne (Option.some.inj e))).trans (heap_alloc_old w5 _ hj)
      have HO6 : Hid (w6.ownsRow (w.heap.size + 1) 38 2 (.slice (some ⟨g, 0, none⟩) (k + 1) n) (k + 1) (serCells (vals ++ [(.slice la l1.length lc, .slice sa l2.length sc)]))) := by
        rw [serCells_snoc]; exact hown6
      have HSr6 : Hid (Sers w6 (g + 1) (vals ++ [(.slice la l1.length lc, .slice sa l2.length sc)]) (seqTo (serR texts) p2 (k + 1)).1) := by
        rw [HX1.out]
        exact (HSr5.out.snoc (p := (.slice la l1.length lc, .slice sa l2.length sc)) (x := (l1, l2)) HL5.out HM5.out).kept fun j hj hjw => hkeep j hjw (by omega)
      have HAp6 := hide (HAp.out.snoc (p := (.slice la l1.length lc, .slice sa l2.length sc)) HSrA.out (Nat.le_refl _) HLb.out HMb.out)
      have HY6 : Hid (YR w6 w.heap.size 0 (seqTo (serR texts) p2 (k + 1)).2.1 (seqTo (serR texts) p2 (k + 1)).2.2) := by
        rw [HX2.out]; exact HY5.out.kept (hkeep _ hyw5 (by omega))
      have HTx6 := hide (HTx5.out.kept (hkeep tb (by omega) (by omega)))
      have HTb6 := hide (HTb5.out.kept (hkeep _ (by omega) (by omega)) (hkeep _ (by omega) (by omega)))
      have HB6 : Hid (Below w.heap.size w w6) := below_grownAt (HB5.out.alloc HB5.out.size _) hgrow6 (by simp; omega) (fun b e => by have := Option.some.inj e; omega)
      clear hown6 hgrow6 hkeep HO5 HSr5 HY5 HTx5 HTb5 HB5 HL5 HM5 HX1 HX2
      go_wp2
      go_roundw
      case rel => exact ⟨k + 1, _, by omega, by go_num, rfl, HO6.out, HSr6.out, HAp6.out, HY6.out, HTx6.out, HTb6.out, HB6.out, by omega⟩
      case measure => simp [intOf]; omega
    · have hke : k = n := by omega
      subst hke
      have c1 := hY.c1
      have HE2 := hide HE.out
      clear hO hSr hY hTx hTb hB
      go_wp2
      go_quiet (fail)
      go_wp2
      go_ret2
      rw [HE2.out]
      refine ⟨.slice (some ⟨g, 0, none⟩) k k, rfl, ⟨vals, ?_, ?_, HAp.out⟩, below_drewN HB.out _⟩
      · rw [seqTo_length]; exact own_mono HO.out (Nat.le_succ _)
      · exact ⟨HSr.out.1, fun i p x hp hx => ⟨own_mono (HSr.out.2 i p x hp hx).1 (by omega), own_mono (HSr.out.2 i p x hp hx).2 (by omega)⟩⟩
end Go.Proofs.YtamcclcbmenjdaaGreatDoor

/- payloadSize, open. -/
namespace Go.Proofs.YtamcclcbmenjdaaGreatDoor
open Go.RowKit Go.Lib

theorem or_byte (V b : Nat) (hV : V < 16777216) (hb : b < 256) : Go.bits .or .i64 ((V : Int) * 256) (b : Int) = ((256 * V + b : Nat) : Int) := by
  have h := bits_join .i64 63 (by decide) Pl.wraps_i64 8 ((V : Int) * 256) b (by omega) (by omega) (by omega) (by omega) (by omega) (by omega)
  rw [h]; omega

set_option maxRecDepth 100000 in
set_option maxHeartbeats 400000 in
theorem payloadSize_any (s : ByteArray) (w : World) (h7 : 7 ≤ s.size) :
    Calls Tryz.prog 105 #[.string s] w fun e w' => e = .returned (.int .i64 (pszTo s.data.toList 4 : Nat)) ∧ w' = w := by
  go_enter Tryz.func105, Tryz.ntmps105
  go_wp2
  go_loop [3, 4] (fun n i => ∃ k : Nat, k ≤ 4 ∧ i = .int .i64 (3 + k : Nat) ∧ n = .int .i64 (pszTo s.data.toList k : Nat)) (fun _ i => 7 - (intOf i).toNat)
  case atStart => exact ⟨0, by omega, rfl, rfl⟩
  case round =>
    obtain ⟨k, hk, rfl, rfl⟩ := hrel
    by_cases hlt : k < 4
    · have hi : 3 + k < s.size := by omega
      have hV : pszTo s.data.toList k < 16777216 := Nat.lt_of_lt_of_le (pszTo_lt _ k) (Nat.pow_le_pow_right (by decide) (by omega : k ≤ 3))
      have hor := or_byte (pszTo s.data.toList k) s[3 + k].toNat hV s[3 + k].toNat_lt
      have hw1 : IntKind.i64.wrap ((pszTo s.data.toList k : Int) * 256) = (pszTo s.data.toList k : Int) * 256 := by rw [IntKind.wrap_i64]; omega
      have HN : Hid (pszTo s.data.toList (k + 1) = 256 * pszTo s.data.toList k + s[3 + k].toNat) := by
        show _ = _
        rw [pszTo, getD_byte s (3 + k) hi]
      have hwb := wrap64_nat s[3 + k].toNat (by have := s[3 + k].toNat_lt; omega)
      have HW := hide hwb
      clear hwb
      go_wp2
      go_round
      case rel => exact ⟨k + 1, by omega, val_int (by omega), val_int (by rw [HN.out, ← hor, HW.out])⟩
      case measure => simp [intOf]; omega
    · have hke : k = 4 := by omega
      subst hke
      go_wp2
      go_ret
      exact ⟨rfl, rfl⟩

/-- Bytes of a text. -/
theorem ext_list (s : ByteArray) (a b : Nat) : (s.extract a b).data.toList = (s.data.toList.take b).drop a := by
  rw [ByteArray.data_extract, Array.toList_extract, List.extract_eq_take_drop, List.drop_take]

set_option maxRecDepth 100000 in
set_option maxHeartbeats 400000 in
theorem open_any (s : ByteArray) (w : World) (hs : s.size ≤ 140737488355328) :
    Calls Tryz.prog 80 #[.string s] w fun e w' => ((Opens s.data.toList ∧ e = .returned (.tuple #[.string (BA (inner s.data.toList)), .bool true])) ∨ (¬ Opens s.data.toList ∧ e = .returned (.tuple #[.string ⟨#[]⟩, .bool false]))) ∧ Below w.heap.size w w' := by
  have hl : s.data.toList.length = s.size := by simp
  by_cases h11 : s.size < 11
  · have hno : ¬ Opens s.data.toList := fun h => by have := h.long; omega
    have HNo := hide hno
    have hlt : (s.size : Int) - 4 < 7 := by omega
    clear hno
    go_enter Tryz.func80, Tryz.ntmps80
    go_wp2
    go_ret2
    exact ⟨.inr ⟨HNo.out, rfl⟩, Below.refl _ _⟩
  · obtain ⟨E, hE⟩ : ∃ E, s.size = E + 4 := ⟨s.size - 4, by omega⟩
    have hEi : (s.size : Int) - 4 = (E : Int) := by omega
    have hge : ¬ ((E : Int) < 7) := by omega
    have hged : decide ((E : Int) < 7) = false := decide_eq_false hge
    have hE2 : (E : Int) ≤ (s.size : Int) := by omega
    have hE7 : 7 ≤ E := by omega
    have HE := hide hE
    have hmk : ((s.extract 0 3).toList = [67, 72, 1]) ↔ s.data.toList.take 3 = [67, 72, 1] := by
      rw [ByteArray.toList_eq, ext_list]; simp
    clear hE
    go_enter Tryz.func80, Tryz.ntmps80
    by_cases hm : (s.extract 0 3).toList = [67, 72, 1]
    · have C1 := hide (payloadSize_any s w (by have := HE.out; omega))
      have hpl := pszTo_lt s.data.toList 4
      have HM := hide (hmk.1 hm)
      by_cases hz : pszTo s.data.toList 4 = s.size - 11
      · have HZ := hide hz
        have hzb : (((pszTo s.data.toList 4 : Nat) : Int) != (E : Int) - 7) = false := by have := HE.out; simp; omega
        clear hz hmk
        go_wp2_with fail
        refine C1.out.mono ?_
        rintro e w1 ⟨rfl, rfl⟩
        have CS := hide (sumBytes_any (s.extract 0 E) w1.drew (by simp; unfold maxLen; omega))
        clear C1
        go_wp2
        have hE3 : (E : Int).toNat = E := rfl
        as_aux_lemma =>
          go_region_with (first | (go_at_call 84; refine CS.out.mono ?_; rintro r w2 ⟨sv, rfl, hsb, hb2⟩; have hcv := run_string_of hsb (by simp [le32])))
          all_goals
            have hsz2 := hb2.size
            have HB2 : Hid (Below w1.heap.size w1 w2) := ((Below.refl w1.heap.size w1).drew).trans hb2
            have e4 : (s.extract E s.size).toList = s.data.toList.drop (s.data.toList.length - 4) := by
              rw [ByteArray.toList_eq, ext_list, show s.data.toList.length - 4 = E by have := HE.out; omega, List.take_of_length_le (by omega)]
            have eE : s.data.toList.length - 4 = E := by have := HE.out; omega
            by_cases hc : (s.extract E s.size).toList = le32 (Pl.crc (s.data.toList.take E))
            · have hcb : (!((s.extract E s.size).toList == le32 (Pl.crc (s.data.toList.take E)))) = false := by simpa using hc
              have HO : Hid (Opens s.data.toList) := ⟨by have := HE.out; omega, HM.out, by rw [hl]; exact HZ.out, by rw [← e4, eE]; exact hc⟩
              clear hc hcv hsb hb2 CS e4
              go_wp2
              · rename_i hx; rw [hcb] at hx; cases hx
              go_ret2
              have e7 : s.extract 7 E = BA (inner s.data.toList) := by
                rw [← BA_of (s.extract 7 E), ext_list, inner, eE]
              exact ⟨.inl ⟨HO.out, by rw [← e7]; rfl⟩, HB2.out⟩
            · have hcb : (!((s.extract E s.size).toList == le32 (Pl.crc (s.data.toList.take E)))) = true := by simpa using hc
              have HNo : Hid (¬ Opens s.data.toList) := fun h => hc (by have := h.sum; rw [e4, this, eE])
              clear hc hcv hsb hb2 CS e4 eE
              go_wp2
              · go_ret2
                exact ⟨.inr ⟨HNo.out, rfl⟩, HB2.out⟩
              · rename_i hx; rw [hcb] at hx; cases hx
      · have hzb : (((pszTo s.data.toList 4 : Nat) : Int) != (E : Int) - 7) = true := by have := HE.out; simp; omega
        have HNo : Hid (¬ Opens s.data.toList) := fun h => hz (by have := h.size; omega)
        clear hz hmk
        go_wp2_with fail
        refine C1.out.mono ?_
        rintro e w1 ⟨rfl, rfl⟩
        clear C1
        go_wp2
        go_ret2
        exact ⟨.inr ⟨HNo.out, rfl⟩, Below.refl _ _⟩
    · have HNo : Hid (¬ Opens s.data.toList) := fun h => hm (hmk.2 h.mark)
      clear hmk
      go_wp2
      go_ret2
      exact ⟨.inr ⟨HNo.out, rfl⟩, Below.refl _ _⟩
end Go.Proofs.YtamcclcbmenjdaaGreatDoor

/- Unpack, Decode. -/
namespace Go.Proofs.YtamcclcbmenjdaaGreatDoor
open Go.RowKit Go.Lib

theorem toI_range (t : Nat) (h : t ≤ 18446744073709551615) : -9223372036854775808 ≤ toI t ∧ toI t ≤ 9223372036854775807 := by
  unfold toI; split <;> omega
theorem seqU_range (s : ByteArray) (u : US) (h : UOk s u) (n : Nat) : ∀ x ∈ (seqU s u n).1, -9223372036854775808 ≤ x.1 ∧ x.1 ≤ 9223372036854775807 ∧ x.2 ≤ 18446744073709551615 := by
  have hone : ∀ v : US, UOk s v → -9223372036854775808 ≤ (samU v).1 ∧ (samU v).1 ≤ 9223372036854775807 ∧ (samU v).2 ≤ 18446744073709551615 := fun v hv =>
    ⟨(toI_range v.t hv.ht).1, (toI_range v.t hv.ht).2, hv.hb⟩
  induction n with
  | zero => intro x hx; rw [List.mem_singleton.1 hx]; exact hone u h
  | succ n ih =>
    intro x hx
    rcases List.mem_append.1 hx with hx | hx
    · exact ih x hx
    · rw [List.mem_singleton.1 hx]; exact hone _ (h.seq n).step
theorem firstU_ok (s : ByteArray) : UOk s (firstU s) := by
  have h1 := tk_lt s 0 0 64
  have h2 := tk_lt s (tk s 0 0 64).2.1 (tk s 0 0 64).2.2 64
  exact ⟨by show (tk s 0 0 64).1 ≤ _; omega, Nat.zero_le _, by show (tk s (tk s 0 0 64).2.1 (tk s 0 0 64).2.2 64).1 ≤ _; omega, by show 0 + 0 ≤ 64; omega, tk_pos _ _ _ _ (tk_pos _ _ _ _ (Nat.zero_le _))⟩
theorem samplesR_range (p : Rest) : ∀ x ∈ (samplesR p).1, -9223372036854775808 ≤ x.1 ∧ x.1 ≤ 9223372036854775807 ∧ x.2 ≤ 18446744073709551615 := by
  unfold samplesR
  simp only
  split
  · intro x hx; cases hx
  · split <;> exact seqU_range _ _ (firstU_ok _) _
theorem samplesR_len (p : Rest) : (samplesR p).1.length ≤ 41 := by
  have hn : (numR p.1 40 p.2).1 ≤ 40 := num_nat p 40
  unfold samplesR
  simp only
  split
  · simp
  · split <;> (show (chunkR _ _).1.length ≤ 41; unfold chunkR; rw [seqU_length]; omega)
theorem labsR_len (texts : List ByteArray) (p : Rest) : (labsR texts p).1.length ≤ 4 := by
  unfold labsR; rw [seqTo_length]; exact num_nat p 4
theorem serR_small (texts : List ByteArray) (q : Rest) : (serR texts q).1.1.length ≤ 4 ∧ (serR texts q).1.2.length ≤ 41 ∧ ∀ y ∈ (serR texts q).1.2, -9223372036854775808 ≤ y.1 ∧ y.1 ≤ 9223372036854775807 ∧ y.2 ≤ 18446744073709551615 := by
  unfold serR
  exact ⟨labsR_len texts q, samplesR_len _, samplesR_range _⟩
theorem seq_small (texts : List ByteArray) (q : Rest) (n : Nat) (hn : n ≤ 8) : Small (seqTo (serR texts) q n).1 ∧ InRange (seqTo (serR texts) q n).1 := by
  have h := seqTo_all (serR texts) (fun x : Ser => x.1.length ≤ 4 ∧ x.2.length ≤ 41 ∧ ∀ y ∈ x.2, -9223372036854775808 ≤ y.1 ∧ y.1 ≤ 9223372036854775807 ∧ y.2 ≤ 18446744073709551615) (fun q => serR_small texts q) q n
  have hl := seqTo_length (serR texts) q n
  generalize (seqTo (serR texts) q n).1 = l at *
  exact ⟨⟨by omega, fun s hs => by have := (h s hs).1; omega, fun s hs => by have := (h s hs).2.1; omega⟩, fun s hs => (h s hs).2.2⟩
theorem payR_small (s : ByteArray) : Small (payR s).1 ∧ InRange (payR s).1 := by
  unfold payR
  exact seq_small _ _ _ (num_nat (textsR (s, 0)).2 8)
theorem payR_st (s : ByteArray) : (payR s).2.2 ≤ 1 := by
  have h0 : Short s.size ((s, 0) : Rest) := ⟨Nat.le_refl _, by omega⟩
  have h1 := short_texts h0
  unfold payR
  simp only
  exact (seqTo_inv (serR (textsR (s, 0)).1) (Short s.size) (fun _ h => short_ser _ h) _ (short_num h1 8) _).2

/-- The series that are read out of a text. -/
def got (l : List UInt8) : List Ser := (payR (BA (inner l))).1
/-- It is a frame. -/
structure IsFrame (l : List UInt8) : Prop where
  opens : Opens l
  whole : (payR (BA (inner l))).2.2 = 0
  batch : BatchOk (got l)
  limits : LimitsOk (got l)
  again : payload (got l) = inner l
theorem IsFrame.eq {l : List UInt8} (h : IsFrame l) : l = frameOf (payload (got l)) := by
  rw [h.again]; exact (frame_of h.opens).1

set_option maxRecDepth 100000 in
set_option maxHeartbeats 400000 in
theorem unpack_any (s : ByteArray) (w : World) (hs : s.size ≤ 140737488355328) (hT : Tabs w) :
    Calls Tryz.prog 45 #[.string s] w fun e w' => ((IsFrame s.data.toList ∧ ∃ v, e = .returned (.tuple #[v, .bool true]) ∧ FreshD w' w.heap.size v (got s.data.toList)) ∨ (¬ IsFrame s.data.toList ∧ e = .returned (.tuple #[.slice none 0 0, .bool false]))) ∧ Below w.heap.size w w' := by
  have C1 := hide (open_any s w hs)
  have HT := hide hT
  have h3 := hT.lt
  clear hT
  go_enter Tryz.func45, Tryz.ntmps45
  go_wp2_with fail
  refine C1.out.mono ?_
  rintro e w1 ⟨⟨ho, rfl⟩ | ⟨ho, rfl⟩, hb1⟩
  · have hin := (frame_of ho).2
    have hT1 := HT.out.below hb1 h3
    have hlen : (BA (inner s.data.toList)).size ≤ 140737488355328 := by rw [BA_size, hin]; simp; omega
    have C2 := hide (unpackPayload_any (BA (inner s.data.toList)) w1 hlen hT1)
    have hst := payR_st (BA (inner s.data.toList))
    have hsm := payR_small (BA (inner s.data.toList))
    have HO := hide ho
    have HF1 : Hid ((payR (BA (inner s.data.toList))).2.2 = 0 → BatchOk (payR (BA (inner s.data.toList))).1 → LimitsOk (payR (BA (inner s.data.toList))).1 → payload (payR (BA (inner s.data.toList))).1 = inner s.data.toList → IsFrame s.data.toList) := fun h1 h2 h3 h4 => ⟨HO.out, h1, h2, h3, h4⟩
    have HF2 : Hid (IsFrame s.data.toList → (payR (BA (inner s.data.toList))).2.2 = 0 ∧ BatchOk (payR (BA (inner s.data.toList))).1 ∧ LimitsOk (payR (BA (inner s.data.toList))).1 ∧ payload (payR (BA (inner s.data.toList))).1 = inner s.data.toList) := fun h => ⟨h.whole, h.batch, h.limits, h.again⟩
    have HG : Hid (got s.data.toList = (payR (BA (inner s.data.toList))).1) := rfl
    generalize payR (BA (inner s.data.toList)) = r at *
    obtain ⟨bs, q, st⟩ := r
    simp only at C2 hst hsm HF1 HF2 HG
    have HB1 := hide hb1
    have HSm := hide hsm.1
    have HRg := hide hsm.2
    have HT1 := hide hT1
    have hs1 := hb1.size
    generalize inner s.data.toList = p at *
    clear ho hb1 hT1 hsm C1 hin HO hlen
    go_wp2_with fail
    refine C2.out.mono ?_
    rintro e w2 ⟨v, rfl, hf2, hb2⟩
    have HFr := hide hf2
    have HB2 := hide (HB1.out.trans (hb2.mono hs1))
    have hT2 := HT1.out.below hb2 (by omega)
    have hs2 := hb2.size
    have hBA := hf2.batchAt HRg.out
    obtain ⟨va, vc, rfl, _⟩ := id hBA
    by_cases h1 : st = 1
    · subst h1
      have HNo : Hid (¬ IsFrame s.data.toList) := fun h => by have := (HF2.out h).1; omega
      clear hf2 hb2 hT2 hBA C2 HF1 HF2
      go_wp2
      go_ret2
      exact ⟨.inr ⟨HNo.out, rfl⟩, HB2.out⟩
    · obtain rfl : st = 0 := by omega
      have C3 := hide (check_any w2.heap.size w2.heap.size _ bs (w2.alloc (.cells #[.slice va bs.length vc] 39)) (World.cell?_alloc_new _ _ _ 0) (hBA.kept fun k hk => heap_alloc_old w2 _ hk) (by simp) (by simp) HSm.out)
      have HBA := hide hBA
      have HT2 := hide hT2
      clear hf2 hb2 hT2 hBA C2 hst h1
      go_wp2_with fail
      refine C3.out.mono ?_
      rintro e w3 ⟨⟨n, rfl, hn⟩, hb3⟩
      have hb3' : Below w2.heap.size w2 w3 := ((Below.refl w2.heap.size w2).alloc (Nat.le_refl _) _).trans (hb3.mono (by simp))
      have HB3 := hide (HB2.out.trans (hb3'.mono (by omega)))
      have hs3 := hb3'.size
      have HFr3 : Hid (FreshD w3 w1.heap.size (.slice va bs.length vc) bs) := HFr.out.kept fun k _ hk => hb3'.block k hk
      by_cases h0 : n = 0
      · subst h0
        have hok : BatchOk bs ∧ LimitsOk bs := by
          rcases hn with ⟨h, _⟩ | ⟨h, _⟩ | ⟨_, h⟩
          · cases h
          · cases h
          · exact h
        have hF := fits_of hok.1 hok.2
        have hp := payload_bounds hF
        have hT3 := HT2.out.below hb3' (by omega)
        have C4 := hide (packPayload_any w2.heap.size _ bs w3 (HBA.out.below hb3' (Nat.le_refl _)) hs3 hT3 hF)
        have HOk := hide hok
        have hpp := hp.2
        clear hb3 hb3' hn hok hF hT3 hp C3 HBA HT2 HFr
        go_wp2_with fail
        refine C4.out.mono ?_
        rintro e w4 ⟨pv, rfl, hby, hb4⟩
        have hcv := run_string_of hby hpp
        have HB4 := hide (HB3.out.trans (hb4.mono (by omega)))
        have HFr4 : Hid (FreshD w4 w1.heap.size (.slice va bs.length vc) bs) := HFr3.out.kept fun k _ hk => hb4.block k hk
        clear hby hb4 C4 HFr3 HB3
        have eT : (BA p).toList = p := by rw [ByteArray.toList_eq, BA_list]
        by_cases hc : payload bs = p
        · have hcb : (!(payload bs == (BA p).toList)) = false := by rw [eT]; simpa using hc
          have HYes := hide (HF1.out trivial HOk.out.1 HOk.out.2 hc)
          clear hc HF1 HF2 eT
          go_wp2
          go_ret2
          refine ⟨.inl ⟨HYes.out, _, rfl, ?_⟩, HB4.out⟩
          rw [HG.out]
          exact HFr4.out.mono hs1
        · have hcb : (!(payload bs == (BA p).toList)) = true := by rw [eT]; simpa using hc
          have HNo : Hid (¬ IsFrame s.data.toList) := fun h => hc (HF2.out h).2.2.2
          clear hc HF1 HF2 eT
          go_wp2
          go_ret2
          exact ⟨.inr ⟨HNo.out, rfl⟩, HB4.out⟩
      · have hne : ((n : Int) != 0) = true := by simp; omega
        have HNo : Hid (¬ IsFrame s.data.toList) := fun h => by
          have := HF2.out h
          rcases hn with ⟨_, h'⟩ | ⟨_, _, h'⟩ | ⟨h', _⟩
          · exact h' this.2.1
          · exact h' this.2.2.1
          · exact h0 h'
        clear hb3 hb3' hn C3 HF1 HF2
        go_wp2
        go_ret2
        exact ⟨.inr ⟨HNo.out, rfl⟩, HB3.out⟩
  · have HNo : Hid (¬ IsFrame s.data.toList) := fun h => ho h.opens
    have HB1 := hide hb1
    clear hb1 ho C1
    go_wp2
    go_ret2
    exact ⟨.inr ⟨HNo.out, rfl⟩, HB1.out⟩

set_option maxHeartbeats 400000 in
theorem decode_any (s : ByteArray) (w : World) (hs : s.size ≤ 140737488355328) (hT : Tabs w) :
    Calls Tryz.prog 34 #[.string s] w fun e w' => ((IsFrame s.data.toList ∧ ∃ v, e = .returned (.tuple #[v, .int .i64 0]) ∧ FreshD w' w.heap.size v (got s.data.toList)) ∨ (¬ IsFrame s.data.toList ∧ e = .returned (.tuple #[.slice none 0 0, .int .i64 3]))) ∧ Below w.heap.size w w' := by
  have C1 := hide (unpack_any s w hs hT)
  clear hT
  go_enter Tryz.func34, Tryz.ntmps34
  go_wp2_with fail
  refine C1.out.mono ?_
  rintro e w1 ⟨⟨ho, v, rfl, hf⟩ | ⟨ho, rfl⟩, hb1⟩
  · have HO := hide ho
    have HF := hide hf
    have HB := hide hb1
    clear ho hf hb1 C1
    go_wp2
    go_ret2
    exact ⟨.inl ⟨HO.out, _, rfl, HF.out⟩, HB.out⟩
  · have HO := hide ho
    have HB := hide hb1
    clear ho hb1 C1
    go_wp2
    go_ret2
    exact ⟨.inr ⟨HO.out, rfl⟩, HB.out⟩
end Go.Proofs.YtamcclcbmenjdaaGreatDoor

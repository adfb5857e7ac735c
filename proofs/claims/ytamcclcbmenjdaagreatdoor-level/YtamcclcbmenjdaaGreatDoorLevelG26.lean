/- 'choirkeep.Level', for any list of steps (100 of them are done): when all are up, nothing is under way, and each has told each other one, all have the same, and compacted logs are the same bytes. The first form's statement and its card: no condition beside the row's own. -/
import Derived.Test.YtamcclcbmenjdaaGreatDoorLevelG23
import Derived.Test.YtamcclcbmenjdaaGreatDoorLevelG25
/- The reference: Frame. -/
namespace Go.Proofs.YtamcclcbmenjdaaGreatDoor
open Go.RowKit Go.Lib

/-- The bytes of a packed number. -/
def vbI (X : Int) : ByteArray := BA (Pl.varint X.toNat)
theorem vbI_size (X : Int) : (vbI X).size ≤ 10 := by have := Pl.varint_length X.toNat; simpa [vbI, BA, ByteArray.size] using this
theorem vbI_any (X : Int) (w : World) (h0 : 0 ≤ X) (h1 : X ≤ 1000000000) :
    Calls Tryz.prog 40 #[.int .i64 X] w fun e w' => e = .returned (.string (vbI X)) ∧ Below w.heap.size w w' := by
  obtain ⟨n, rfl⟩ := Int.eq_ofNat_of_zero_le h0
  have h : n < 128 ^ (9 + 1) := by omega
  exact refVarint_any 9 n w (by omega) h (by omega)
theorem BA_app (a b : List UInt8) : BA a ++ BA b = BA (a ++ b) := ByteArray.mk_append_mk a b
theorem BA_eta (x : ByteArray) : BA x.data.toList = x := by cases x; simp [BA]
theorem vbI_nat (n : Nat) : vbI (n : Int) = BA (Pl.varint n) := rfl
theorem be32_ints (n : Nat) (h : n ≤ 4294967295) : [(n : Int) / 16777216, (n : Int) / 65536 % 256, (n : Int) / 256 % 256, (n : Int) % 256] = (be32 n).map fun x => (x.toNat : Int) := by
  simp only [be32, List.map_cons, List.map_nil, Pl.u8_ofNat _ (Nat.mod_lt _ (by omega : 0 < 256))]
  congr 1
  omega
theorem le32_ints (n : Nat) (h : n ≤ 4294967295) : [(n : Int) % 256, (n : Int) / 256 % 256, (n : Int) / 65536 % 256, (n : Int) / 16777216] = (le32 n).map fun x => (x.toNat : Int) := by
  simp only [le32, List.map_cons, List.map_nil, Pl.u8_ofNat _ (Nat.mod_lt _ (by omega : 0 < 256))]
  congr 1
  congr 1
  congr 1
  congr 1
  omega
theorem place_any (tv : Value) (tb : Nat) (texts : List ByteArray) (hp : texts.Pairwise TLt) (hl : texts.length ≤ 1000000) (x : ByteArray) (w : World) (hx : x ∈ texts) (ht : TextsAt w tv tb texts) :
    Calls Tryz.prog 41 #[tv, .string x] w fun e w' => e = .returned (.int .i64 (placeOf texts x)) ∧ w' = w := by
  refine (refPlace_any tv tb texts x w ht hl hx).mono ?_
  rintro e w' ⟨⟨k, rfl, hk, _⟩, rfl⟩
  exact ⟨by rw [place_is texts hp x k hk], rfl⟩
/-- string([]byte{a, b, c, d}). -/
theorem conv_four (W : World) (g : Nat) (a b c d : Int) (l : List UInt8) (h0 : W.cell? ⟨g, 0, none⟩ = some (.int .u8 a)) (h1 : W.cell? ⟨g, 1, none⟩ = some (.int .u8 b)) (h2 : W.cell? ⟨g, 2, none⟩ = some (.int .u8 c)) (h3 : W.cell? ⟨g, 3, none⟩ = some (.int .u8 d))
    (hl : [a, b, c, d] = l.map fun x => (x.toNat : Int)) : (convert 83 9 (.slice (some ⟨g, 0, none⟩) 4 4)).run Tryz.prog W = .ok (.string (BA l)) W := by
  match l, hl with
  | [x, y, z, t], hl =>
    simp only [List.map_cons, List.map_nil, List.cons.injEq, and_true] at hl
    obtain ⟨rfl, rfl, rfl, rfl⟩ := hl
    refine run_convert_bytes_back (P := Tryz.prog) W 83 9 5 ⟨g, 0, none⟩ 4 [x, y, z, t] Tryz.underlying83 Tryz.underlying5 Tryz.underlying9 (fun j hj => ?_)
    match j, hj with
    | 0, _ => exact h0
    | 1, _ => exact h1
    | 2, _ => exact h2
    | 3, _ => exact h3

set_option maxRecDepth 100000 in
set_option maxHeartbeats 2000000 in
theorem refFrame_any (B : Nat) (v : Value) (bs : List Ser) (w : World) (hS : BatchAt w B v bs) (hB : B ≤ w.heap.size) (hF : Fits bs) :
    Calls Tryz.prog 10 #[v] w fun e w' => e = .returned (.string (BA (frameOf (payload bs)))) ∧ Below w.heap.size w w' := by
  obtain ⟨a, c, rfl, _⟩ := id hS
  have hsm := allTexts_small bs hF
  have hbl := hF.series
  have C1 := hide (refTexts_any B _ bs w hS hB hF.series hF.labels)
  have htl : (sortedTexts (allTexts bs)).length ≤ 64 := Nat.le_trans (sortedTexts_len _) hsm.1
  have ht16 : ∀ x ∈ sortedTexts (allTexts bs), x.size ≤ 16 := fun x hx => hsm.2 x (sortedTexts_mem hx)
  have hts := texts_sorted (allTexts bs)
  have HPay : Hid (payload bs = Pl.varint (sortedTexts (allTexts bs)).length ++ textsBytes (sortedTexts (allTexts bs)) ++ Pl.varint bs.length ++ seriesAll (sortedTexts (allTexts bs)) bs) := rfl
  have HS := hide hS
  have HFit := hide hF
  have HPb := hide (payload_bounds hF)
  have hmem : ∀ (i : Nat) (s : Ser), bs[i]? = some s → ∀ l ∈ s.1, l.1 ∈ sortedTexts (allTexts bs) ∧ l.2 ∈ sortedTexts (allTexts bs) := fun i s hs l hl => by
    have h1 : ∀ x ∈ [l.1, l.2], x ∈ allTexts bs := fun x hx => by
      simp only [allTexts, labTexts, List.mem_flatMap]
      exact ⟨s, List.mem_of_getElem? hs, l, hl, hx⟩
    exact ⟨hts.2 _ (h1 _ (by simp)), hts.2 _ (h1 _ (by simp))⟩
  have HMem := hide hmem
  generalize sortedTexts (allTexts bs) = texts at *
  have C := hide vbI_any
  have hvs := vbI_size
  have CP := hide (fun tv tb => place_any tv tb texts hts.1 (by omega))
  have H16 := hide ht16
  clear hS hF hsm hmem hts ht16
  go_enter Tryz.func10, Tryz.ntmps10
  go_wp2_with fail
  refine C1.out.mono ?_
  rintro e w1 ⟨o, tb, rfl, hT1, htb, hb1⟩
  have hs1 := hb1.size
  obtain ⟨ta, tc, rfl⟩ : ∃ ov oc, o = .slice ov texts.length oc := by
    rcases hT1.shape with ⟨h, a, c, h2⟩ | ⟨o, c, h2, _⟩
    · exact ⟨a, c, by rw [h2, h]; rfl⟩
    · exact ⟨_, c, h2⟩
  have HB1 := hide hb1
  have HT1 := hide hT1
  clear hb1 hT1 C1
  go_wp2_with fail
  refine (C.out _ _ (by omega) (by omega)).mono ?_
  rintro e w2 ⟨rfl, hb2⟩
  have hs2 := hb2.size
  have HB2 := hide hb2
  have hq0 := hvs texts.length
  have HQ0 := hide (vbI_nat texts.length)
  generalize vbI texts.length = q0 at *
  clear hb2
  go_wp2
  go_loopw [4, 5] (fun p i wr => ∃ (k : Nat) (pb : ByteArray), k ≤ texts.length ∧ i = .int .i64 k ∧ p = .string pb ∧ Below w1.heap.size w1 wr ∧ pb.size ≤ 10 + 26 * k ∧ Hid (pb = BA (Pl.varint texts.length ++ textsBytes (texts.take k)))) (fun _ i _ => texts.length - (intOf i).toNat)
  case atStart => exact ⟨0, q0, Nat.zero_le _, rfl, rfl, HB2.out, by omega, by show _ = _; rw [HQ0.out]; simp [textsBytes]⟩
  case round =>
    generalize wr = W0 at *
    obtain ⟨k, pb, hk, rfl, rfl, hbw, hps, HP⟩ := hrel
    have hsw := hbw.size
    have HBw := hide hbw
    clear hbw HQ0 hq0
    by_cases hlt : k < texts.length
    · obtain ⟨x, hx⟩ : ∃ x, texts[k]? = some x := ⟨_, List.getElem?_eq_getElem hlt⟩
      have hx16 := H16.out x (List.mem_of_getElem? hx)
      have htbw : tb < w1.heap.size := htb (fun e => by rw [e] at hlt; exact absurd hlt (by simp))
      have hcc : ∃ to, ta = some ⟨tb, to, none⟩ ∧ W0.cell? ⟨tb, to + k, none⟩ = some (.string x) := by
        rcases HT1.out.shape with ⟨h, _⟩ | ⟨o, c, h2, hc⟩
        · rw [h] at hx; cases hx
        · cases h2
          exact ⟨o, rfl, (HBw.out.cell (p := ⟨tb, o + k, none⟩) htbw).trans (hc k x hx)⟩
      obtain ⟨to, rfl, c1⟩ := hcc
      have htbW : tb < W0.heap.size := by omega
      have hv1 := hvs (x.size : Int)
      have HV1 := hide (vbI_nat x.size)
      have HPn : Hid ((pb ++ vbI (x.size : Int)) ++ x = BA (Pl.varint texts.length ++ textsBytes (texts.take (k + 1)))) := by
        show _ = _
        rw [HV1.out, HP.out, BA_app, textsBytes_take texts k x hx]
        conv => lhs; rw [← BA_eta x]
        rw [BA_app, BA_eta]
        simp only [List.append_assoc]
      have hno1 : ¬ 9223372036854775807 < pb.size + (vbI (x.size : Int)).size := by omega
      have hno2 : ¬ 9223372036854775807 < pb.size + (vbI (x.size : Int)).size + x.size := by omega
      have hz1 : (pb ++ vbI (x.size : Int) ++ x).size ≤ 10 + 26 * (k + 1) := by rw [ByteArray.size_append, ByteArray.size_append]; omega
      have C3 : Hid (∀ W, Calls Tryz.prog 40 #[.int .i64 (x.size : Int)] W fun e w' => e = .returned (.string (vbI (x.size : Int))) ∧ Below W.heap.size W w') := fun W => C.out _ W (by omega) (by omega)
      clear hx HP HV1
      generalize vbI (x.size : Int) = vq at *
      go_wp2
      as_aux_lemma =>
        go_region_held3 (fun w' => w'.cell? ⟨tb, to + k, none⟩ = some (.string x)) (go_keep) (first | (go_at_call 40; refine (C3.out _).mono ?_; rintro e w3 ⟨rfl, hb3⟩; have e1 := (hb3.cell (p := ⟨tb, to + k, none⟩) (by show tb < W0.heap.size; omega)).trans c1))
        all_goals
          have HB3 := hide (HBw.out.drew.trans (hb3.mono (by show w1.heap.size ≤ W0.heap.size; omega)))
          clear hb3 e1 c1
          go_wp2
          go_roundw
          case rel => exact ⟨k + 1, _, by omega, by go_num, rfl, HB3.out, hz1, HPn.out⟩
          case measure => simp [intOf]; omega
    · have hke : k = texts.length := by omega
      have HP2 : Hid (pb = BA (Pl.varint texts.length ++ textsBytes texts)) := by show _ = _; rw [HP.out, hke, List.take_length]
      clear HP hke
      go_wp2_with fail
      refine (C.out _ _ (by omega) (by omega)).mono ?_
      rintro e w3 ⟨rfl, hb3⟩
      have hs3 := hb3.size
      have HB3 := hide (HBw.out.trans (hb3.mono hsw))
      have hv3 := hvs (bs.length : Int)
      have hno3 : ¬ 9223372036854775807 < pb.size + (vbI (bs.length : Int)).size := by omega
      have HP3 : Hid (pb ++ vbI (bs.length : Int) = BA (Pl.varint texts.length ++ textsBytes texts ++ Pl.varint bs.length)) := by
        show _ = _
        rw [HP2.out, vbI_nat, BA_app]
      have hz3 : (pb ++ vbI (bs.length : Int)).size ≤ 2000 := by rw [ByteArray.size_append]; omega
      clear hb3 HP2 HBw
      generalize vbI (bs.length : Int) = vq at *
      go_wp2
      generalize pb ++ vq = q3 at *
      go_loopw [4, 6, 7, 8, 9] (fun p i _ _ _ wr => ∃ (m : Nat) (pb : ByteArray), m ≤ bs.length ∧ i = .int .i64 m ∧ p = .string pb ∧ Below w1.heap.size w1 wr ∧ pb.size ≤ 2000 + 6200 * m ∧ Hid (pb = BA (Pl.varint texts.length ++ textsBytes texts ++ Pl.varint bs.length ++ seriesAll texts (bs.take m)))) (fun _ i _ _ _ _ => bs.length - (intOf i).toNat)
      case atStart => exact ⟨0, q3, Nat.zero_le _, rfl, rfl, HB3.out, by omega, by show _ = _; rw [HP3.out]; simp [seriesAll]⟩
      case round =>
        generalize wr = W2 at *
        obtain ⟨m, pm, hm, rfl, rfl, hbm, hpm, HPm⟩ := hrel
        have hsm2 := hbm.size
        have HBm := hide hbm
        clear hbm HP3 HB3 hz3
        by_cases hml : m < bs.length
        · obtain ⟨⟨y1, y2⟩, hy⟩ : ∃ y, bs[m]? = some y := ⟨_, List.getElem?_eq_getElem hml⟩
          have hyf := List.mem_of_getElem? hy
          have hl4 : y1.length ≤ 4 := HFit.out.labels _ hyf
          have hs40 : y2.length ≤ 40 := (HFit.out.samples _ hyf).2
          have hsne : y2 ≠ [] := (HFit.out.samples _ hyf).1
          have KS := (HS.out.below HB1.out hB).below HBm.out (by omega)
          obtain ⟨b, o, la, lc, sa, sc, rfl, hb, c1, c2, hLa, hSa⟩ := KS.get hy
          have hbw : b < W2.heap.size := by omega
          have HY := hide hy
          have HLa := hide hLa
          have HSa := hide hSa
          have HMy := hide (HMem.out m _ hy)
          simp only at c1 c2 HMy
          clear hy KS hLa hSa hyf
          go_wp2_with fail
          refine (C.out _ _ (by omega) (by omega)).mono ?_
          rintro e w4 ⟨rfl, hb4⟩
          have hs4 := hb4.size
          have HB4 := hide hb4
          have hv4 := hvs (y1.length : Int)
          have hno4 : ¬ 9223372036854775807 < pm.size + (vbI (y1.length : Int)).size := by omega
          have HP4 : Hid (pm ++ vbI (y1.length : Int) = BA (Pl.varint texts.length ++ textsBytes texts ++ Pl.varint bs.length ++ seriesAll texts (bs.take m) ++ Pl.varint y1.length)) := by
            show _ = _
            rw [HPm.out, vbI_nat, BA_app]
          have hz4 : (pm ++ vbI (y1.length : Int)).size ≤ 2000 + 6200 * m + 10 := by rw [ByteArray.size_append]; omega
          clear hb4 HPm
          generalize vbI (y1.length : Int) = vq4 at *
          go_wp2
          generalize pm ++ vq4 = q4 at *
          go_loopw [4, 8] (fun p i wr => ∃ (t : Nat) (pb : ByteArray), t ≤ y1.length ∧ i = .int .i64 t ∧ p = .string pb ∧ Below W2.heap.size W2 wr ∧ pb.size ≤ 2000 + 6200 * m + 10 + 20 * t ∧ Hid (pb = BA (Pl.varint texts.length ++ textsBytes texts ++ Pl.varint bs.length ++ seriesAll texts (bs.take m) ++ Pl.varint y1.length ++ labelsBytes texts (y1.take t)))) (fun _ i _ => y1.length - (intOf i).toNat)
          case atStart => exact ⟨0, q4, Nat.zero_le _, rfl, rfl, HB4.out, by omega, by show _ = _; rw [HP4.out]; simp [labelsBytes]⟩
          case round =>
            obtain ⟨t, pt, ht, rfl, rfl, hbt, hpt, HPt⟩ := hrel
            have hst := hbt.size
            have HBt := hide hbt
            clear hbt HP4 HB4 hz4
            by_cases htl : t < y1.length
            · obtain ⟨⟨p1, p2⟩, hp⟩ : ∃ p, y1[t]? = some p := ⟨_, List.getElem?_eq_getElem htl⟩
              have KL := HLa.out.below HBt.out (by omega)
              obtain ⟨lb, lo, rfl, hlb, e1, e2⟩ := KL.get hp
              have hlbw : lb < wr.heap.size := by omega
              obtain ⟨mm1, mm2⟩ := HMy.out _ (List.mem_of_getElem? hp)
              simp only at e1 e2 mm1 mm2
              have htbw : tb < w1.heap.size := htb (fun e => by rw [e] at mm1; cases mm1)
              have HTk : Hid (∀ W : World, W.heap[tb]? = wr.heap[tb]? → TextsAt W (.slice ta texts.length tc) tb texts) := fun W hW => HT1.out.kept (hW.trans ((HBt.out.block tb (by omega)).trans (HBm.out.block tb htbw)))
              have CPl : Hid (∀ (x : ByteArray) (W : World), x ∈ texts → W.heap[tb]? = wr.heap[tb]? → Calls Tryz.prog 41 #[.slice ta texts.length tc, .string x] W fun e w' => e = .returned (.int .i64 (placeOf texts x)) ∧ W = w') := fun x W hx hW => (CP.out _ _ x W hx (HTk.out W hW)).mono fun _ _ ⟨h1, h2⟩ => ⟨h1, h2.symm⟩
              have pl1 := placeOf_le texts p1
              have pl2 := placeOf_le texts p2
              have CV : Hid (∀ (x : ByteArray) (W : World), Calls Tryz.prog 40 #[.int .i64 ((placeOf texts x : Nat) : Int)] W fun e w' => e = .returned (.string (vbI (placeOf texts x : Int))) ∧ Below W.heap.size W w') := fun x W => C.out _ W (by omega) (by have := placeOf_le texts x; omega)
              have hq1 := hvs (placeOf texts p1 : Int)
              have hq2 := hvs (placeOf texts p2 : Int)
              have HPn : Hid ((pt ++ vbI (placeOf texts p1 : Int)) ++ vbI (placeOf texts p2 : Int) = BA (Pl.varint texts.length ++ textsBytes texts ++ Pl.varint bs.length ++ seriesAll texts (bs.take m) ++ Pl.varint y1.length ++ labelsBytes texts (y1.take (t + 1)))) := by
                show _ = _
                rw [HPt.out, vbI_nat, vbI_nat, BA_app, BA_app, labelsBytes_take texts y1 t _ hp]
                simp only [List.append_assoc]
              have hno1 : ¬ 9223372036854775807 < pt.size + (vbI (placeOf texts p1 : Int)).size := by omega
              have hno2 : ¬ 9223372036854775807 < pt.size + (vbI (placeOf texts p1 : Int)).size + (vbI (placeOf texts p2 : Int)).size := by omega
              have hz1 : (pt ++ vbI (placeOf texts p1 : Int) ++ vbI (placeOf texts p2 : Int)).size ≤ 2000 + 6200 * m + 10 + 20 * (t + 1) := by rw [ByteArray.size_append, ByteArray.size_append]; omega
              have htbr : tb < wr.heap.size := by omega
              clear hp KL HPt hvs
              go_wp2
              as_aux_lemma =>
                go_region_held3 (fun w' => w'.cell? ⟨lb, lo + t * 2, none⟩ = some (.string p1) ∧ w'.cell? ⟨lb, lo + t * 2 + 1, none⟩ = some (.string p2)) (go_keep) (first | (go_at_call 41; refine (CPl.out _ _ (by first | exact mm1 | exact mm2) (by first | exact hk5 | exact rfl)).mono ?_; rintro e w' ⟨rfl, rfl⟩) | (go_at_call_of 40 (placeOf texts p1); refine (CV.out _ _).mono ?_; rintro e w5 ⟨rfl, hb5⟩; have hs5 : wr.heap.size ≤ w5.heap.size := hb5.size; have hk5 : w5.heap[tb]? = wr.heap[tb]? := hb5.block tb htbr; have v1 := (hb5.cell (p := ⟨lb, lo + t * 2, none⟩) (by show lb < wr.heap.size; omega)).trans e1; have v2 := (hb5.cell (p := ⟨lb, lo + t * 2 + 1, none⟩) (by show lb < wr.heap.size; omega)).trans e2) | (go_at_call_of 40 (placeOf texts p2); refine (CV.out _ _).mono ?_; rintro e w6 ⟨rfl, hb6⟩; have x1 := (hb6.cell (p := ⟨lb, lo + t * 2, none⟩) (by show lb < w5.heap.size; omega)).trans v1; have x2 := (hb6.cell (p := ⟨lb, lo + t * 2 + 1, none⟩) (by show lb < w5.heap.size; omega)).trans v2))
                all_goals
                  have HB6 := hide ((HBt.out.drew.trans (hb5.mono (by show W2.heap.size ≤ wr.heap.size; omega))).trans (hb6.mono (by show W2.heap.size ≤ w5.heap.size; omega)))
                  clear hb5 hb6 hk5 v1 v2 x1 x2 e1 e2
                  go_wp2
                  go_roundw
                  case rel => exact ⟨t + 1, _, by omega, by go_num, rfl, HB6.out, hz1, HPn.out⟩
                  case measure => simp [intOf]; omega
            · have hte : t = y1.length := by omega
              have HP5 : Hid (pt = BA (Pl.varint texts.length ++ textsBytes texts ++ Pl.varint bs.length ++ seriesAll texts (bs.take m) ++ Pl.varint y1.length ++ labelsBytes texts y1)) := by show _ = _; rw [HPt.out, hte, List.take_length]
              have n1 := (HBt.out.cell (p := ⟨b, o + m * 2, none⟩) hbw).trans c1
              have n2 := (HBt.out.cell (p := ⟨b, o + m * 2 + 1, none⟩) hbw).trans c2
              have hSt := HSa.out.below HBt.out (by omega)
              obtain ⟨y0, yr, rfl⟩ : ∃ y0 yr, y2 = y0 :: yr := by
                cases y2 with
                | nil => exact absurd rfl hsne
                | cons a r => exact ⟨a, r, rfl⟩
              have hs40' : yr.length ≤ 39 := by simp only [List.length_cons] at hs40; omega
              have CC := hide (refChunk_any B _ y0 yr wr hSt (by omega) (by omega))
              have hcb := chunkBytes_len (y0 :: yr) (by omega)
              have hcl : (chunkBits (y0 :: yr)).length ≤ 128 + 150 * yr.length := by
                have h := goBits_len yr (Go.Proofs.YtamcclcbmenjdaaGreatDoor.u64 y0.1) 0 y0.2 0 0 (by omega)
                rw [chunkBits, List.length_append, List.length_append, Pl.bitsOf_length, Pl.bitsOf_length]; omega
              have hcl0 : 0 < (chunkBits (y0 :: yr)).length := by
                rw [chunkBits, List.length_append, List.length_append, Pl.bitsOf_length]; omega
              have hbw3 : b < wr.heap.size := by omega
              clear HPt hte c1 c2 hSt
              go_wp2_with fail
              refine CC.out.mono ?_
              rintro e w5 ⟨rfl, hb5⟩
              have hs5 := hb5.size
              have HB5 := hide hb5
              clear hb5 CC
              go_wp2_with fail
              refine (filled_any _ _ (by omega) hcl0).mono ?_
              rintro e w6 ⟨rfl, hb6⟩
              have HB6 := hide (HB5.out.trans (hb6.mono hs5))
              have hs6 := hb6.size
              have q2 := (HB6.out.cell (p := ⟨b, o + m * 2 + 1, none⟩) hbw3).trans n2
              have HCh : Hid (Pl.pack (chunkBits (y0 :: yr)) = chunkBytes (y0 :: yr)) := rfl
              clear hb6 HB5 n1 n2
              go_wp2_with fail
              refine (C.out _ _ (by omega) (by omega)).mono ?_
              rintro e w7 ⟨rfl, hb7⟩
              have hs7 := hb7.size
              have HB7 := hide (HB6.out.trans (hb7.mono (by omega)))
              have hv7 := hvs ((y0 :: yr).length : Int)
              have hv8 := hvs ((Pl.pack (chunkBits (y0 :: yr))).length : Int)
              have HP9 : Hid (((pt ++ vbI ((y0 :: yr).length : Int)) ++ vbI ((Pl.pack (chunkBits (y0 :: yr))).length : Int)) ++ ⟨(Pl.pack (chunkBits (y0 :: yr))).toArray⟩ = BA (Pl.varint texts.length ++ textsBytes texts ++ Pl.varint bs.length ++ seriesAll texts (bs.take (m + 1)))) := by
                show _ = _
                rw [HP5.out, vbI_nat, vbI_nat, BA_app, BA_app, show (⟨(Pl.pack (chunkBits (y0 :: yr))).toArray⟩ : ByteArray) = BA (Pl.pack (chunkBits (y0 :: yr))) from rfl, BA_app, seriesAll_take texts bs m _ HY.out]
                simp only [seriesBytes, chunkBytes, List.append_assoc]
              have CV8 : Hid (∀ W : World, Calls Tryz.prog 40 #[.int .i64 ((Pl.pack (chunkBits (y0 :: yr))).length : Int)] W fun e w' => e = .returned (.string (vbI ((Pl.pack (chunkBits (y0 :: yr))).length : Int))) ∧ Below W.heap.size W w') := fun W => C.out _ W (by omega) (by omega)
              have e8 : ((Pl.pack (chunkBits (y0 :: yr))).toArray).size = (Pl.pack (chunkBits (y0 :: yr))).length := by simp
              have ecast : (((y0 :: yr).length : Nat) : Int) = (yr.length : Int) + 1 := by simp
              rw [ecast] at hv7 HP9
              clear hb7 HB6 q2 HP5 HCh hvs ecast
              generalize vbI ((yr.length : Int) + 1) = s7 at *
              generalize hpk : Pl.pack (chunkBits (y0 :: yr)) = ck at *
              generalize vbI (ck.length : Int) = s8 at *
              clear hpk
              have hno7 : ¬ 9223372036854775807 < pt.size + s7.size := by omega
              have hno8 : ¬ 9223372036854775807 < pt.size + s7.size + s8.size := by omega
              have hno9 : ¬ 9223372036854775807 < pt.size + s7.size + s8.size + ck.length := by omega
              have hz9 : (pt ++ s7 ++ s8 ++ ⟨ck.toArray⟩).size ≤ 2000 + 6200 * (m + 1) := by rw [ByteArray.size_append, ByteArray.size_append, ByteArray.size_append]; show _ + ck.toArray.size ≤ _; rw [e8]; omega
              go_wp2_with fail
              refine (CV8.out _).mono ?_
              rintro e w8 ⟨rfl, hb8⟩
              have HB8 := hide (HBm.out.trans ((HBt.out.trans ((HB7.out.trans (hb8.mono (by omega))).mono hst)).mono hsm2))
              clear hb8 HB7 CV8
              go_wp2
              go_roundw
              case rel => exact ⟨m + 1, _, by omega, by go_num, rfl, HB8.out, hz9, HP9.out⟩
              case measure => simp [intOf]; omega
        · have hme : m = bs.length := by omega
          have HPf : Hid (pm = BA (payload bs)) := by show _ = _; rw [HPm.out, hme, List.take_length, HPay.out]
          have hn : pm.size ≤ 60000 := by rw [HPf.out, BA_size]; exact HPb.out.1
          have hcv := conv_four (W2.alloc (.cells #[.int .u8 ((pm.size : Int) / 16777216), .int .u8 ((pm.size : Int) / 65536 % 256), .int .u8 ((pm.size : Int) / 256 % 256), .int .u8 ((pm.size : Int) % 256)] 5)) W2.heap.size _ _ _ _ (be32 pm.size) (World.cell?_alloc_new _ _ _ 0) (World.cell?_alloc_new _ _ _ 1) (World.cell?_alloc_new _ _ _ 2) (World.cell?_alloc_new _ _ _ 3) (be32_ints pm.size (by omega))
          have hb4 : (BA (be32 pm.size)).size = 4 := by rw [BA_size]; rfl
          have HH : Hid ((⟨#[67, 72, 1]⟩ ++ BA (be32 pm.size)) ++ pm = BA (headOf (payload bs))) := by
            show _ = _
            have e1 : be32 pm.size = be32 (payload bs).length := by rw [HPf.out, BA_size]
            rw [e1, HPf.out, show (⟨#[67, 72, 1]⟩ : ByteArray) = BA [67, 72, 1] from rfl, BA_app, BA_app]
            rfl
          clear HPm hme
          generalize BA (be32 pm.size) = s4 at *
          have hno4 : ¬ 9223372036854775807 < 3 + s4.size := by omega
          have hno5 : ¬ 9223372036854775807 < 3 + s4.size + pm.size := by omega
          have hzh : ((⟨#[67, 72, 1]⟩ ++ s4) ++ pm).size ≤ 70000 := by rw [ByteArray.size_append, ByteArray.size_append]; show 3 + _ + _ ≤ _; omega
          generalize hhd : (⟨#[67, 72, 1]⟩ ++ s4) ++ pm = hd at *
          have HHd := hide hhd
          clear hhd
          go_wp2_with fail
          rw [HHd.out]
          refine (refSum_any hd _ (by unfold maxLen; omega)).mono ?_
          rintro e w5 ⟨rfl, rfl⟩
          have hcr : Pl.crc hd.data.toList ≤ 4294967295 := by have := Pl.crc_lt hd.data.toList; omega
          have HEnd : Hid (hd ++ BA (le32 (Pl.crc hd.data.toList)) = BA (frameOf (payload bs))) := by
            show _ = _
            rw [HH.out, BA_app, BA_list]; rfl
          generalize Pl.crc hd.data.toList = cr at *
          have hcv2 := conv_four ((W2.alloc (.cells #[.int .u8 ((pm.size : Int) / 16777216), .int .u8 ((pm.size : Int) / 65536 % 256), .int .u8 ((pm.size : Int) / 256 % 256), .int .u8 ((pm.size : Int) % 256)] 5)).alloc (.cells #[.int .u8 ((cr : Int) % 256), .int .u8 ((cr : Int) / 256 % 256), .int .u8 ((cr : Int) / 65536 % 256), .int .u8 ((cr : Int) / 16777216)] 5)) (W2.heap.size + 1) _ _ _ _ (le32 cr) (by rw [World.cell?_alloc_at _ _ _ _ (by simp)]; rfl) (by rw [World.cell?_alloc_at _ _ _ _ (by simp)]; rfl) (by rw [World.cell?_alloc_at _ _ _ _ (by simp)]; rfl) (by rw [World.cell?_alloc_at _ _ _ _ (by simp)]; rfl) (le32_ints cr hcr)
          have hl4 : (BA (le32 cr)).size = 4 := by rw [BA_size]; rfl
          generalize BA (le32 cr) = e4 at *
          have hno6 : ¬ 9223372036854775807 < hd.size + e4.size := by omega
          clear HHd
          go_wp2
          go_ret
          refine ⟨by rw [← HEnd.out]; rfl, ?_⟩
          have h2 := HB1.out.trans (HBm.out.mono hs1)
          exact (h2.alloc (by omega) _).alloc (by simp; omega) _
end Go.Proofs.YtamcclcbmenjdaaGreatDoor

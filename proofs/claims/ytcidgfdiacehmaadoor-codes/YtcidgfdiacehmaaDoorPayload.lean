/- packPayload. -/
import Derived.Test.YtcidgfdiacehmaaDoorNumOf
namespace Go.Proofs.YtcidgfdiacehmaaDoor
open Go.RowKit Go.Lib Go.Sort

/-- Within the limits of the document. -/
structure Fits (bs : List Ser) : Prop where
  series : bs.length ≤ 8
  labels : ∀ s ∈ bs, s.1.length ≤ 4
  samples : ∀ s ∈ bs, s.2 ≠ [] ∧ s.2.length ≤ 40
  texts : ∀ s ∈ bs, ∀ l ∈ s.1, l.1.size ≤ 16 ∧ l.2.size ≤ 16

theorem sortedTexts_mem {l : List ByteArray} {x : ByteArray} (h : x ∈ sortedTexts l) : x ∈ l := by
  unfold sortedTexts Lib.compact compactUpTo at h
  obtain ⟨y, hy, rfl⟩ := List.mem_map.1 h
  obtain ⟨j, hj, rfl⟩ := List.mem_map.1 hy
  have hj2 := List.mem_range.1 (List.mem_filter.1 hj).1
  rw [getElem!_list _ j hj2]
  have hm := List.getElem_mem hj2
  obtain ⟨s, hs, he⟩ := List.mem_map.1 (List.mem_mergeSort.1 hm)
  rw [← he, str_eta]; exact hs
theorem sortedTexts_len (l : List ByteArray) : (sortedTexts l).length ≤ l.length := by
  rw [sortedTexts, List.length_map]
  refine Nat.le_trans (compact_le _) ?_
  rw [List.length_mergeSort, List.length_map]; exact Nat.le_refl _
theorem allTexts_small (bs : List Ser) (h : Fits bs) : (allTexts bs).length ≤ 64 ∧ ∀ x ∈ allTexts bs, x.size ≤ 16 := by
  constructor
  · have h1 : ∀ (l : List Ser), (∀ s ∈ l, s.1.length ≤ 4) → (allTexts l).length ≤ 8 * l.length := by
      intro l
      induction l with
      | nil => intro _; simp [allTexts]
      | cons x r ih =>
        intro hl
        have h1 := labTexts_len x.1
        have h2 := hl x (by simp)
        have h3 := ih fun s hs => hl s (by simp [hs])
        simp only [allTexts, List.flatMap_cons, List.length_append, List.length_cons] at h3 ⊢
        omega
    have := h1 bs h.labels
    have := h.series
    omega
  · intro x hx
    simp only [allTexts, labTexts, List.mem_flatMap] at hx
    obtain ⟨s, hs, l, hl, hx⟩ := hx
    have := h.texts s hs l hl
    simp at hx
    rcases hx with rfl | rfl
    · exact this.1
    · exact this.2

def textsBytes (l : List ByteArray) : List UInt8 := l.flatMap fun x => Pl.varint x.size ++ x.data.toList
def seriesAll (texts : List ByteArray) (bs : List Ser) : List UInt8 := bs.flatMap fun s => seriesBytes texts s.1 s.2
/-- The payload of a batch. -/
def payload (bs : List Ser) : List UInt8 :=
  Pl.varint (sortedTexts (allTexts bs)).length ++ textsBytes (sortedTexts (allTexts bs)) ++ Pl.varint bs.length ++ seriesAll (sortedTexts (allTexts bs)) bs

theorem textsBytes_take (l : List ByteArray) (k : Nat) (x : ByteArray) (h : l[k]? = some x) : textsBytes (l.take (k + 1)) = textsBytes (l.take k) ++ Pl.varint x.size ++ x.data.toList := by
  obtain ⟨hk, hx⟩ := List.getElem?_eq_some_iff.1 h
  rw [List.take_succ_eq_append_getElem hk, hx, textsBytes, List.flatMap_append]
  simp [textsBytes]
theorem textsBytes_len (l : List ByteArray) (h : ∀ x ∈ l, x.size ≤ 16) : (textsBytes l).length ≤ 26 * l.length := by
  induction l with
  | nil => simp [textsBytes]
  | cons x r ih =>
    have h1 := h x (by simp)
    have h2 := Pl.varint_length x.size
    have h3 := ih fun s hs => h s (by simp [hs])
    have h4 : x.data.toList.length = x.size := by rw [Array.length_toList]; rfl
    simp only [textsBytes, List.flatMap_cons, List.length_append, List.length_cons] at h3 ⊢
    omega
theorem seriesAll_take (texts : List ByteArray) (l : List Ser) (k : Nat) (x : Ser) (h : l[k]? = some x) : seriesAll texts (l.take (k + 1)) = seriesAll texts (l.take k) ++ seriesBytes texts x.1 x.2 := by
  obtain ⟨hk, hx⟩ := List.getElem?_eq_some_iff.1 h
  rw [List.take_succ_eq_append_getElem hk, hx, seriesAll, List.flatMap_append]
  simp [seriesAll]
theorem seriesBytes_len (texts : List ByteArray) (l : List Lab) (s : List (Int × Nat)) (hl : l.length ≤ 4) (hs : s.length ≤ 40) : (seriesBytes texts l s).length ≤ 6200 := by
  have h1 := Pl.varint_length l.length
  have h2 := labelsBytes_len texts l
  have h3 := Pl.varint_length s.length
  have h4 := Pl.varint_length (chunkBytes s).length
  have h5 : (chunkBytes s).length ≤ 6000 := chunkBytes_len s (by omega)
  simp only [seriesBytes, List.length_append]
  omega
theorem seriesAll_len (texts : List ByteArray) (l : List Ser) (h : ∀ s ∈ l, s.1.length ≤ 4 ∧ s.2.length ≤ 40) : (seriesAll texts l).length ≤ 6200 * l.length := by
  induction l with
  | nil => simp [seriesAll]
  | cons x r ih =>
    have h1 := h x (by simp)
    have h2 := seriesBytes_len texts x.1 x.2 h1.1 h1.2
    have h3 := ih fun s hs => h s (by simp [hs])
    simp only [seriesAll, List.flatMap_cons, List.length_append, List.length_cons] at h3 ⊢
    omega

set_option maxRecDepth 100000 in
set_option maxHeartbeats 400000 in
theorem packPayload_any (B : Nat) (v : Value) (bs : List Ser) (w : World) (hb : BatchAt w B v bs) (hB : B ≤ w.heap.size) (hT : Tabs w) (hF : Fits bs) :
    Calls Tryd.prog 31 #[v] w fun e w' => ∃ p, e = .returned p ∧ Bytes w.heap.size w' p (payload bs) ∧ Below w.heap.size w w' := by
  obtain ⟨i0, hi, hz0, hz1, hz2⟩ := info_parts Tryd.infoU8
  have h3 : 3 ≤ w.heap.size := hT.lt
  have hv := hb
  obtain ⟨a, cap, rfl, hcap, _⟩ := hv
  have hsm := allTexts_small bs hF
  have hbl := hF.series
  have C := hide (textsOf_any B _ bs w hb hB (by omega) (fun s hs => Nat.le_trans (hF.labels s hs) (by omega)) h3)
  have HP : Hid (payload bs = Pl.varint (sortedTexts (allTexts bs)).length ++ textsBytes (sortedTexts (allTexts bs)) ++ Pl.varint bs.length ++ seriesAll (sortedTexts (allTexts bs)) bs) := rfl
  have hsl : (sortedTexts (allTexts bs)).length ≤ 64 := Nat.le_trans (sortedTexts_len _) hsm.1
  have hsx : ∀ x ∈ sortedTexts (allTexts bs), x.size ≤ 16 := fun x hx => hsm.2 x (sortedTexts_mem hx)
  generalize sortedTexts (allTexts bs) = texts at *
  have HSX := hide hsx
  have HF := hide hF
  have hsh : ∀ x ∈ allLabs bs, ShortL x := fun x hx => by
    obtain ⟨s, hs, hx2⟩ := List.mem_flatMap.1 hx
    have h16 := hF.texts s hs x hx2
    exact ⟨by unfold maxLen; omega, by unfold maxLen; omega⟩
  have HSh := hide hsh
  have HB := hide hb
  have HT := hide hT
  clear hsm hb hF hT hsx hsh
  go_enter Tryd.func31, Tryd.ntmps31
  go_wp2_with fail
  refine C.out.mono ?_
  rintro e w1 ⟨t, rfl, hb1, tb, hTx, htb, htb2⟩
  have htn : ∃ ta tc, t = .slice ta texts.length tc := by
    rcases hTx.shape with ⟨h, x, c, h2⟩ | ⟨o, c, h2, _⟩
    · exact ⟨x, c, by rw [h2, h]; rfl⟩
    · exact ⟨_, c, h2⟩
  obtain ⟨ta, tc, htv⟩ := htn
  rw [htv] at hTx ⊢
  have HB1 := hide hb1
  have HTx := hide hTx
  have A0 : App w.heap.size w1 (.slice none 0 0) w1 (.slice none 0 0) [] := ⟨World.ownsRow_nil _ _ _ _, grownBy_refl _ _, Heir.refl _ _⟩
  have HA0 := hide A0
  have hs1 := hb1.size
  clear hTx htv hb1 C A0
  go_wp2_with fail
  refine (HA0.out.varint _ texts.length rfl (by omega) (by simp) hs1).mono ?_
  rintro e w2 ⟨o2, rfl, A2⟩
  have HA2 := hide A2
  clear A2
  have htk : ∀ (W : World) (o : Value) (zs : List UInt8), App w.heap.size w1 (.slice none 0 0) W o zs → TextsAt W (.slice ta texts.length tc) tb texts := fun W o zs hA => HTx.out.kept (hA.block htb (by simp [Value.ownBlock]))
  have HTK := hide htk
  clear htk
  go_wp2
  go_loopw [4, 6, 17] (fun o _ i wr => ∃ k : Nat, k ≤ texts.length ∧ i = .int .i64 k ∧ App w.heap.size w1 (.slice none 0 0) wr o (Pl.varint texts.length ++ textsBytes (texts.take k))) (fun _ _ i _ => texts.length - (intOf i).toNat)
  case atStart => exact ⟨0, Nat.zero_le _, rfl, by simpa [textsBytes] using HA2.out⟩
  case round =>
    obtain ⟨k, hk, rfl, hA⟩ := hrel
    have HA := hide hA
    have hlz : (Pl.varint texts.length ++ textsBytes (texts.take k)).length ≤ 2000 := by
      have h1 := Pl.varint_length texts.length
      have h2 := textsBytes_len (texts.take k) (fun x hx => HSX.out x (List.mem_of_mem_take hx))
      have h3 : (texts.take k).length ≤ k := List.length_take_le _ _
      rw [List.length_append]; omega
    have HLZ := hide hlz
    clear hA HA2 hlz
    by_cases hlt : k < texts.length
    · obtain ⟨x, hx⟩ : ∃ x, texts[k]? = some x := ⟨_, List.getElem?_eq_getElem hlt⟩
      have hxs := HSX.out x (List.mem_of_getElem? hx)
      have hc : ∃ to, ta = some ⟨tb, to, none⟩ ∧ wr.cell? ⟨tb, to + k, none⟩ = some (.string x) := by
        rcases (HTK.out _ _ _ HA.out).shape with ⟨h, _⟩ | ⟨o, c, h2, hcc⟩
        · rw [h] at hx; cases hx
        · cases h2; exact ⟨o, rfl, hcc k x hx⟩
      obtain ⟨to, rfl, m0⟩ := hc
      have HE := hide (textsBytes_take texts k x hx)
      have hs2 := HA.out.grown.size
      clear hx
      go_wp2_with fail
      refine (HA.out.varint _ x.size rfl (by omega) (by have := HLZ.out; omega) hs1).mono ?_
      rintro e w3 ⟨o3, rfl, A3⟩
      have HA3 := hide A3
      have hb3 : w.heap.size ≤ w3.heap.size := by have := A3.grown.size; omega
      have hl3 := Pl.varint_length x.size
      clear A3 m0
      go_wp2_with (first | (at_builtin; refine wpList_append_heir_string _ rfl (.tmp 25) (.tmp 26) 63 9 rfl w.heap.size 5 i0 Tryd.underlying63 Tryd.underlying9 hi hz0 hz1 hz2 _ _ _ rfl HA3.out.bytes x rfl ?c3 ?c4 hb3 ?_))
      case c3 => unfold maxLen; rw [List.length_append]; have h := HLZ.out; omega
      case c4 => rw [List.length_append]; have h := HLZ.out; omega
      intro v5 w5 hown5 hgrow5 hheir5
      have A5 : App w.heap.size w1 (.slice none 0 0) w5 v5 (Pl.varint texts.length ++ textsBytes (texts.take (k + 1))) := by
        have h := HA3.out.step (W' := w5) (o' := v5) (bytes_app (b := x.data.toList) hown5) hgrow5 hheir5
        rw [HE.out]
        simpa only [List.append_assoc] using h
      have HA5 := hide A5
      clear A5 hown5 hgrow5 hheir5 hl3
      go_wp2
      go_roundw
      case rel => exact ⟨k + 1, by omega, by go_num, HA5.out⟩
      case measure => simp [intOf]; omega
    · have hke : k = texts.length := by omega
      rw [hke, List.take_of_length_le (Nat.le_refl _)] at HA HLZ
      clear hke
      have hkw : ∀ q, q < w.heap.size → wr.heap[q]? = w.heap[q]? := fun q hq => (HA.out.block (k := q) (by omega) (by simp [Value.ownBlock])).trans (HB1.out.block q hq)
      have hws := HA.out.grown.size
      have CN := hide (numbersOf_any B tb _ (.slice ta texts.length tc) bs texts wr (HB.out.kept fun q hq => hkw q (by omega)) (by omega) (by omega) (fun s hs => Nat.le_trans (HF.out.labels s hs) (by omega)) HSh.out (HTK.out _ _ _ HA.out) (by omega) (by omega))
      clear hkw
      go_wp2_with fail
      refine CN.out.mono ?_
      rintro e wm ⟨mb, nn, rfl, hmb, hNM, hbm⟩
      have hmo : some mb ≠ u4.ownBlock := fun e => by have := (World.ownsRow.lt HA.out.bytes _ e.symm).2; omega
      have HMO := hide hmo
      have HNM := hide hNM
      have hml := hNM.lt
      have HAm := hide (HA.out.below hbm)
      have hsm := hbm.size
      clear CN hNM hbm hmo HA
      go_wp2_with fail
      refine (HAm.out.self.varint _ bs.length rfl (by omega) (by have := HLZ.out; omega) (by omega)).mono ?_
      rintro e w3 ⟨o3, rfl, A3⟩
      have HA3 := hide A3
      have hl3 : (Pl.varint texts.length ++ textsBytes texts ++ Pl.varint bs.length).length ≤ 2010 := by rw [List.length_append]; have h := HLZ.out; have h2 := Pl.varint_length bs.length; omega
      have HL3 := hide hl3
      clear A3 hl3 HLZ
      generalize u4 = om at *
      go_wp2
      go_loopw [4, 9, 38] (fun o _ i wr => ∃ j : Nat, j ≤ bs.length ∧ i = .int .i64 j ∧ App w.heap.size wm om wr o (Pl.varint texts.length ++ textsBytes texts ++ Pl.varint bs.length ++ seriesAll texts (bs.take j))) (fun _ _ i _ => bs.length - (intOf i).toNat)
      case atStart => exact ⟨0, Nat.zero_le _, rfl, by simpa [seriesAll] using HA3.out⟩
      case round =>
        obtain ⟨j, hj, rfl, hA⟩ := hrel
        have HA := hide hA
        have hlz : (Pl.varint texts.length ++ textsBytes texts ++ Pl.varint bs.length ++ seriesAll texts (bs.take j)).length ≤ 60000 := by
          have h1 := HL3.out
          have h2 := seriesAll_len texts (bs.take j) (fun x hx => ⟨HF.out.labels x (List.mem_of_mem_take hx), (HF.out.samples x (List.mem_of_mem_take hx)).2⟩)
          have h3 : (bs.take j).length ≤ j := List.length_take_le _ _
          rw [List.length_append]; omega
        have HLZ := hide hlz
        clear hA HA3 hlz
        by_cases hlt2 : j < bs.length
        · obtain ⟨y, hy⟩ : ∃ y, bs[j]? = some y := ⟨_, List.getElem?_eq_getElem hlt2⟩
          have hym := List.mem_of_getElem? hy
          have hyl := HF.out.labels y hym
          have hys := HF.out.samples y hym
          have hk : ∀ q, q < w.heap.size → wr.heap[q]? = w.heap[q]? := fun q hq => ((HAm.out.trans HA.out).block (k := q) (by omega) (by simp [Value.ownBlock])).trans (HB1.out.block q hq)
          have hc : ∃ b o la lc sa sc, a = some ⟨b, o, none⟩ ∧ wr.cell? ⟨b, o + j * 2, none⟩ = some (.slice la y.1.length lc) ∧ wr.cell? ⟨b, o + j * 2 + 1, none⟩ = some (.slice sa y.2.length sc) ∧ LabelsAt wr B (.slice la y.1.length lc) y.1 ∧ SamplesAt wr B (.slice sa y.2.length sc) y.2 := by
            obtain ⟨a', cap', hv', _, h2⟩ := HB.out
            cases hv'
            rcases h2 with h | ⟨b, o, ha, hbb, hcc⟩
            · rw [h] at hy; cases hy
            · obtain ⟨lv, sv, h1, h2, h3', h4⟩ := hcc j y hy
              obtain ⟨la, lc, rfl, _⟩ := id h3'
              obtain ⟨sa, sc, rfl, _⟩ := id h4
              have hbk := hk b (by omega)
              exact ⟨b, o, la, lc, sa, sc, ha, (World.cell?_of_block (a := ⟨b, o + j * 2, none⟩) hbk).trans h1, (World.cell?_of_block (a := ⟨b, o + j * 2 + 1, none⟩) hbk).trans h2,
                h3'.kept fun q hq => hk q (by omega), h4.kept fun q hq => hk q (by omega)⟩
          obtain ⟨b, o, la, lc, sa, sc, rfl, m0, m1, hLa, hSa⟩ := hc
          have hTw : Tabs wr := HT.out.kept (hk _ (by omega)) (hk _ (by omega))
          have hKt : NumMap wr mb nn texts (allLabs bs) := HNM.out.kept (HA.out.block (k := mb) hml HMO.out)
          have hse : ∀ x ∈ y.1, x ∈ allLabs bs ∧ ShortL x := fun x hx => by
            have hx2 : x ∈ allLabs bs := List.mem_flatMap.2 ⟨y, hym, hx⟩
            exact ⟨hx2, HSh.out x hx2⟩
          have hs2 := HA.out.grown.size
          have hnt : some mb ≠ u4.ownBlock := HA.out.ne hml HMO.out
          obtain ⟨W, hW⟩ : ∃ W, W = wr.alloc (.cells #[.slice la y.1.length lc, .slice sa y.2.length sc] 46) := ⟨_, rfl⟩
          have hWk : ∀ q, q < wr.heap.size → W.heap[q]? = wr.heap[q]? := fun q hq => by rw [hW]; exact heap_alloc_old wr _ hq
          have hWs : W.heap.size = wr.heap.size + 1 := by rw [hW]; simp
          have C := hide (appendSeries_any w.heap.size B mb nn u4 _ _ _ texts (allLabs bs) y.1 y.2 W (by rw [hW]; exact (HA.out.alloc _).bytes) (by have := HLZ.out; omega) (by omega) hB h3 (hTw.kept (hWk _ (by omega)) (hWk _ (by omega)))
            (hKt.kept (hWk mb (by omega))) hse (by omega) (by omega) hnt (hLa.kept fun q hq => hWk q (by omega)) (by omega) (hSa.kept fun q hq => hWk q (by omega)) hys.1 (by have := hys.2; omega))
          have HE := hide (seriesAll_take texts bs j y hy)
          have HW := hide hW
          clear hy hym hyl hys hk hLa hSa hTw hKt hnt hWk hWs hW hse
          go_wp2_with fail
          rw [← HW.out]
          refine C.out.mono ?_
          rintro e w5 ⟨o5, rfl, A5⟩
          have A6 : App w.heap.size wm om w5 o5 (Pl.varint texts.length ++ textsBytes texts ++ Pl.varint bs.length ++ seriesAll texts (bs.take (j + 1))) := by
            rw [HW.out] at A5
            have h := HA.out.trans A5.of_alloc
            rw [HE.out]
            simpa only [List.append_assoc] using h
          have HA6 := hide A6
          clear A5 A6 C m0 m1
          go_wp2
          go_roundw
          case rel => exact ⟨j + 1, by omega, by go_num, HA6.out⟩
          case measure => simp [intOf]; omega
        · have hje : j = bs.length := by omega
          rw [hje, List.take_of_length_le (Nat.le_refl _), ← HP.out] at HA
          clear hje
          go_wp2
          go_ret
          exact ⟨_, rfl, HA.out.bytes, HB1.out.trans ((Below.refl _ _).grown (HAm.out.trans HA.out).grown hs1 (fun k e => by simp [Value.ownBlock] at e))⟩
end Go.Proofs.YtcidgfdiacehmaaDoor

/- 'choirkeep.Level', for any list of steps (100 of them are done): when all are up, nothing is under way, and each has told each other one, all have the same, and compacted logs are the same bytes. The first form's statement and its card: no condition beside the row's own. -/
import Derived.Test.YtamcclcbmenjdaaGreatDoorLevelG12
import Derived.Lib.SlBytesConst
import Derived.Test.YtamcclcbmenjdaaGreatDoorLevelG7
/- packPayload. -/
namespace Go.Proofs.YtamcclcbmenjdaaGreatDoor
open Go.RowKit Go.Lib Go.Sort

/-- Within the limits of the document. -/
structure Fits (bs : List Ser) : Prop where
  series : bs.length ≤ 8
  labels : ∀ s ∈ bs, s.1.length ≤ 4
  samples : ∀ s ∈ bs, s.2 ≠ [] ∧ s.2.length ≤ 40
  texts : ∀ s ∈ bs, ∀ l ∈ s.1, l.1.size ≤ 16 ∧ l.2.size ≤ 16

theorem sortedTexts_mem {l : List ByteArray} {x : ByteArray} (h : x ∈ sortedTexts l) : x ∈ l := by
  unfold sortedTexts Lib.compact compactUpTo at h
  obtain ⟨y, hy, rfl⟩ := List.mem_map.1 h
  obtain ⟨j, hj, rfl⟩ := List.mem_map.1 hy
  have hj2 := List.mem_range.1 (List.mem_filter.1 hj).1
  rw [getElem!_list _ j hj2]
  have hm := List.getElem_mem hj2
  obtain ⟨s, hs, he⟩ := List.mem_map.1 (List.mem_mergeSort.1 hm)
  rw [← he, str_eta]; exact hs
theorem sortedTexts_len (l : List ByteArray) : (sortedTexts l).length ≤ l.length := by
  rw [sortedTexts, List.length_map]
  refine Nat.le_trans (compact_le _) ?_
  rw [List.length_mergeSort, List.length_map]; exact Nat.le_refl _
theorem allTexts_small (bs : List Ser) (h : Fits bs) : (allTexts bs).length ≤ 64 ∧ ∀ x ∈ allTexts bs, x.size ≤ 16 := by
  constructor
  · have h1 : ∀ (l : List Ser), (∀ s ∈ l, s.1.length ≤ 4) → (allTexts l).length ≤ 8 * l.length := by
      intro l
      induction l with
      | nil => intro _; simp [allTexts]
      | cons x r ih =>
        intro hl
        have h1 := labTexts_len x.1
        have h2 := hl x (by simp)
        have h3 := ih fun s hs => hl s (by simp [hs])
        simp only [allTexts, List.flatMap_cons, List.length_append, List.length_cons] at h3 ⊢
        omega
    have := h1 bs h.labels
    have := h.series
    omega
  · intro x hx
    simp only [allTexts, labTexts, List.mem_flatMap] at hx
    obtain ⟨s, hs, l, hl, hx⟩ := hx
    have := h.texts s hs l hl
    simp at hx
    rcases hx with rfl | rfl
    · exact this.1
    · exact this.2

def textsBytes (l : List ByteArray) : List UInt8 := l.flatMap fun x => Pl.varint x.size ++ x.data.toList
def seriesAll (texts : List ByteArray) (bs : List Ser) : List UInt8 := bs.flatMap fun s => seriesBytes texts s.1 s.2
/-- The payload of a batch. -/
def payload (bs : List Ser) : List UInt8 :=
  Pl.varint (sortedTexts (allTexts bs)).length ++ textsBytes (sortedTexts (allTexts bs)) ++ Pl.varint bs.length ++ seriesAll (sortedTexts (allTexts bs)) bs

theorem textsBytes_take (l : List ByteArray) (k : Nat) (x : ByteArray) (h : l[k]? = some x) : textsBytes (l.take (k + 1)) = textsBytes (l.take k) ++ Pl.varint x.size ++ x.data.toList := by
  obtain ⟨hk, hx⟩ := List.getElem?_eq_some_iff.1 h
  rw [List.take_succ_eq_append_getElem hk, hx, textsBytes, List.flatMap_append]
  simp [textsBytes]
theorem textsBytes_len (l : List ByteArray) (h : ∀ x ∈ l, x.size ≤ 16) : (textsBytes l).length ≤ 26 * l.length := by
  induction l with
  | nil => simp [textsBytes]
  | cons x r ih =>
    have h1 := h x (by simp)
    have h2 := Pl.varint_length x.size
    have h3 := ih fun s hs => h s (by simp [hs])
    have h4 : x.data.toList.length = x.size := by rw [Array.length_toList]; rfl
    simp only [textsBytes, List.flatMap_cons, List.length_append, List.length_cons] at h3 ⊢
    omega
theorem seriesAll_take (texts : List ByteArray) (l : List Ser) (k : Nat) (x : Ser) (h : l[k]? = some x) : seriesAll texts (l.take (k + 1)) = seriesAll texts (l.take k) ++ seriesBytes texts x.1 x.2 := by
  obtain ⟨hk, hx⟩ := List.getElem?_eq_some_iff.1 h
  rw [List.take_succ_eq_append_getElem hk, hx, seriesAll, List.flatMap_append]
  simp [seriesAll]
theorem seriesBytes_len (texts : List ByteArray) (l : List Lab) (s : List (Int × Nat)) (hl : l.length ≤ 4) (hs : s.length ≤ 40) : (seriesBytes texts l s).length ≤ 6200 := by
  have h1 := Pl.varint_length l.length
  have h2 := labelsBytes_len texts l
  have h3 := Pl.varint_length s.length
  have h4 := Pl.varint_length (chunkBytes s).length
  have h5 : (chunkBytes s).length ≤ 6000 := chunkBytes_len s (by omega)
  simp only [seriesBytes, List.length_append]
  omega
theorem seriesAll_len (texts : List ByteArray) (l : List Ser) (h : ∀ s ∈ l, s.1.length ≤ 4 ∧ s.2.length ≤ 40) : (seriesAll texts l).length ≤ 6200 * l.length := by
  induction l with
  | nil => simp [seriesAll]
  | cons x r ih =>
    have h1 := h x (by simp)
    have h2 := seriesBytes_len texts x.1 x.2 h1.1 h1.2
    have h3 := ih fun s hs => h s (by simp [hs])
    simp only [seriesAll, List.flatMap_cons, List.length_append, List.length_cons] at h3 ⊢
    omega

set_option maxRecDepth 100000 in
set_option maxHeartbeats 400000 in
theorem packPayload_any (B : Nat) (v : Value) (bs : List Ser) (w : World) (hb : BatchAt w B v bs) (hB : B ≤ w.heap.size) (hT : Tabs w) (hF : Fits bs) :
    Calls Tryz.prog 82 #[v] w fun e w' => ∃ p, e = .returned p ∧ Bytes w.heap.size w' p (payload bs) ∧ Below w.heap.size w w' := by
  obtain ⟨i0, hi, hz0, hz1, hz2⟩ := info_parts Tryz.infoU8
  have h3 : 3 ≤ w.heap.size := hT.lt
  have hv := hb
  obtain ⟨a, cap, rfl, hcap, _⟩ := hv
  have hsm := allTexts_small bs hF
  have hbl := hF.series
  have C := hide (textsOf_any B _ bs w hb hB (by omega) (fun s hs => Nat.le_trans (hF.labels s hs) (by omega)) h3)
  have HP : Hid (payload bs = Pl.varint (sortedTexts (allTexts bs)).length ++ textsBytes (sortedTexts (allTexts bs)) ++ Pl.varint bs.length ++ seriesAll (sortedTexts (allTexts bs)) bs) := rfl
  have hsl : (sortedTexts (allTexts bs)).length ≤ 64 := Nat.le_trans (sortedTexts_len _) hsm.1
  have hsx : ∀ x ∈ sortedTexts (allTexts bs), x.size ≤ 16 := fun x hx => hsm.2 x (sortedTexts_mem hx)
  generalize sortedTexts (allTexts bs) = texts at *
  have HSX := hide hsx
  have HF := hide hF
  have hsh : ∀ x ∈ allLabs bs, ShortL x := fun x hx => by
    obtain ⟨s, hs, hx2⟩ := List.mem_flatMap.1 hx
    have h16 := hF.texts s hs x hx2
    exact ⟨by unfold maxLen; omega, by unfold maxLen; omega⟩
  have HSh := hide hsh
  have HB := hide hb
  have HT := hide hT
  clear hsm hb hF hT hsx hsh
  go_enter Tryz.func82, Tryz.ntmps82
  go_wp2_with fail
  refine C.out.mono ?_
  rintro e w1 ⟨t, rfl, hb1, tb, hTx, htb, htb2⟩
  have htn : ∃ ta tc, t = .slice ta texts.length tc := by
    rcases hTx.shape with ⟨h, x, c, h2⟩ | ⟨o, c, h2, _⟩
    · exact ⟨x, c, by rw [h2, h]; rfl⟩
    · exact ⟨_, c, h2⟩
  obtain ⟨ta, tc, htv⟩ := htn
  rw [htv] at hTx ⊢
  have HB1 := hide hb1
  have HTx := hide hTx
  have A0 : App w.heap.size w1 (.slice none 0 0) w1 (.slice none 0 0) [] := ⟨World.ownsRow_nil _ _ _ _, grownBy_refl _ _, Heir.refl _ _⟩
  have HA0 := hide A0
  have hs1 := hb1.size
  clear hTx htv hb1 C A0
  go_wp2_with fail
  refine (HA0.out.varint _ texts.length rfl (by omega) (by simp) hs1).mono ?_
  rintro e w2 ⟨o2, rfl, A2⟩
  have HA2 := hide A2
  clear A2
  have htk : ∀ (W : World) (o : Value) (zs : List UInt8), App w.heap.size w1 (.slice none 0 0) W o zs → TextsAt W (.slice ta texts.length tc) tb texts := fun W o zs hA => HTx.out.kept (hA.block htb (by simp [Value.ownBlock]))
  have HTK := hide htk
  clear htk
  go_wp2
  go_loopw [4, 6, 17] (fun o _ i wr => ∃ k : Nat, k ≤ texts.length ∧ i = .int .i64 k ∧ App w.heap.size w1 (.slice none 0 0) wr o (Pl.varint texts.length ++ textsBytes (texts.take k))) (fun _ _ i _ => texts.length - (intOf i).toNat)
  case atStart => exact ⟨0, Nat.zero_le _, rfl, by simpa [textsBytes] using HA2.out⟩
  case round =>
    obtain ⟨k, hk, rfl, hA⟩ := hrel
    have HA := hide hA
    have hlz : (Pl.varint texts.length ++ textsBytes (texts.take k)).length ≤ 2000 := by
      have h1 := Pl.varint_length texts.length
      have h2 := textsBytes_len (texts.take k) (fun x hx => HSX.out x (List.mem_of_mem_take hx))
      have h3 : (texts.take k).length ≤ k := List.length_take_le _ _
      rw [List.length_append]; omega
    have HLZ := hide hlz
    clear hA HA2 hlz
    by_cases hlt : k < texts.length
    · obtain ⟨x, hx⟩ : ∃ x, texts[k]? = some x := ⟨_, List.getElem?_eq_getElem hlt⟩
      have hxs := HSX.out x (List.mem_of_getElem? hx)
      have hc : ∃ to, ta = some ⟨tb, to, none⟩ ∧ wr.cell? ⟨tb, to + k, none⟩ = some (.string x) := by
        rcases (HTK.out _ _ _ HA.out).shape with ⟨h, _⟩ | ⟨o, c, h2, hcc⟩
        · rw [h] at hx; cases hx
        · cases h2; exact ⟨o, rfl, hcc k x hx⟩
      obtain ⟨to, rfl, m0⟩ := hc
      have HE := hide (textsBytes_take texts k x hx)
      have hs2 := HA.out.grown.size
      clear hx
      go_wp2_with fail
      refine (HA.out.varint _ x.size rfl (by omega) (by have := HLZ.out; omega) hs1).mono ?_
      rintro e w3 ⟨o3, rfl, A3⟩
      have HA3 := hide A3
      have hb3 : w.heap.size ≤ w3.heap.size := by have := A3.grown.size; omega
      have hl3 := Pl.varint_length x.size
      clear A3 m0
      go_wp2_with (first | (at_builtin; refine wpList_append_heir_string _ rfl (.tmp 25) (.tmp 26) 83 9 rfl w.heap.size 5 i0 Tryz.underlying83 Tryz.underlying9 hi hz0 hz1 hz2 _ _ _ rfl HA3.out.bytes x rfl ?c3 ?c4 hb3 ?_))
      case c3 => unfold maxLen; rw [List.length_append]; have h := HLZ.out; omega
      case c4 => rw [List.length_append]; have h := HLZ.out; omega
      intro v5 w5 hown5 hgrow5 hheir5
      have A5 : App w.heap.size w1 (.slice none 0 0) w5 v5 (Pl.varint texts.length ++ textsBytes (texts.take (k + 1))) := by
        have h := HA3.out.step (W' := w5) (o' := v5) (bytes_app (b := x.data.toList) hown5) hgrow5 hheir5
        rw [HE.out]
        simpa only [List.append_assoc] using h
      have HA5 := hide A5
      clear A5 hown5 hgrow5 hheir5 hl3
      go_wp2
      go_roundw
      case rel => exact ⟨k + 1, by omega, by go_num, HA5.out⟩
      case measure => simp [intOf]; omega
    · have hke : k = texts.length := by omega
      rw [hke, List.take_of_length_le (Nat.le_refl _)] at HA HLZ
      clear hke
      have hkw : ∀ q, q < w.heap.size → wr.heap[q]? = w.heap[q]? := fun q hq => (HA.out.block (k := q) (by omega) (by simp [Value.ownBlock])).trans (HB1.out.block q hq)
      have hws := HA.out.grown.size
      have CN := hide (numbersOf_any B tb _ (.slice ta texts.length tc) bs texts wr (HB.out.kept fun q hq => hkw q (by omega)) (by omega) (by omega) (fun s hs => Nat.le_trans (HF.out.labels s hs) (by omega)) HSh.out (HTK.out _ _ _ HA.out) (by omega) (by omega))
      clear hkw
      go_wp2_with fail
      refine CN.out.mono ?_
      rintro e wm ⟨mb, nn, rfl, hmb, hNM, hbm⟩
      have hmo : some mb ≠ u4.ownBlock := fun e => by have := (World.ownsRow.lt HA.out.bytes _ e.symm).2; omega
      have HMO := hide hmo
      have HNM := hide hNM
      have hml := hNM.lt
      have HAm := hide (HA.out.below hbm)
      have hsm := hbm.size
      clear CN hNM hbm hmo HA
      go_wp2_with fail
      refine (HAm.out.self.varint _ bs.length rfl (by omega) (by have := HLZ.out; omega) (by omega)).mono ?_
      rintro e w3 ⟨o3, rfl, A3⟩
      have HA3 := hide A3
      have hl3 : (Pl.varint texts.length ++ textsBytes texts ++ Pl.varint bs.length).length ≤ 2010 := by rw [List.length_append]; have h := HLZ.out; have h2 := Pl.varint_length bs.length; omega
      have HL3 := hide hl3
      clear A3 hl3 HLZ
      generalize u4 = om at *
      go_wp2
      go_loopw [4, 9, 38] (fun o _ i wr => ∃ j : Nat, j ≤ bs.length ∧ i = .int .i64 j ∧ App w.heap.size wm om wr o (Pl.varint texts.length ++ textsBytes texts ++ Pl.varint bs.length ++ seriesAll texts (bs.take j))) (fun _ _ i _ => bs.length - (intOf i).toNat)
      case atStart => exact ⟨0, Nat.zero_le _, rfl, by simpa [seriesAll] using HA3.out⟩
      case round =>
        obtain ⟨j, hj, rfl, hA⟩ := hrel
        have HA := hide hA
        have hlz : (Pl.varint texts.length ++ textsBytes texts ++ Pl.varint bs.length ++ seriesAll texts (bs.take j)).length ≤ 60000 := by
          have h1 := HL3.out
          have h2 := seriesAll_len texts (bs.take j) (fun x hx => ⟨HF.out.labels x (List.mem_of_mem_take hx), (HF.out.samples x (List.mem_of_mem_take hx)).2⟩)
          have h3 : (bs.take j).length ≤ j := List.length_take_le _ _
          rw [List.length_append]; omega
        have HLZ := hide hlz
        clear hA HA3 hlz
        by_cases hlt2 : j < bs.length
        · obtain ⟨y, hy⟩ : ∃ y, bs[j]? = some y := ⟨_, List.getElem?_eq_getElem hlt2⟩
          have hym := List.mem_of_getElem? hy
          have hyl := HF.out.labels y hym
          have hys := HF.out.samples y hym
          have hk : ∀ q, q < w.heap.size → wr.heap[q]? = w.heap[q]? := fun q hq => ((HAm.out.trans HA.out).block (k := q) (by omega) (by simp [Value.ownBlock])).trans (HB1.out.block q hq)
          have hc : ∃ b o la lc sa sc, a = some ⟨b, o, none⟩ ∧ wr.cell? ⟨b, o + j * 2, none⟩ = some (.slice la y.1.length lc) ∧ wr.cell? ⟨b, o + j * 2 + 1, none⟩ = some (.slice sa y.2.length sc) ∧ LabelsAt wr B (.slice la y.1.length lc) y.1 ∧ SamplesAt wr B (.slice sa y.2.length sc) y.2 := by
            obtain ⟨a', cap', hv', _, h2⟩ := HB.out
            cases hv'
            rcases h2 with h | ⟨b, o, ha, hbb, hcc⟩
            · rw [h] at hy; cases hy
            · obtain ⟨lv, sv, h1, h2, h3', h4⟩ := hcc j y hy
              obtain ⟨la, lc, rfl, _⟩ := id h3'
              obtain ⟨sa, sc, rfl, _⟩ := id h4
              have hbk := hk b (by omega)
              exact ⟨b, o, la, lc, sa, sc, ha, (World.cell?_of_block (a := ⟨b, o + j * 2, none⟩) hbk).trans h1, (World.cell?_of_block (a := ⟨b, o + j * 2 + 1, none⟩) hbk).trans h2,
                h3'.kept fun q hq => hk q (by omega), h4.kept fun q hq => hk q (by omega)⟩
          obtain ⟨b, o, la, lc, sa, sc, rfl, m0, m1, hLa, hSa⟩ := hc
          have hTw : Tabs wr := HT.out.kept (hk _ (by omega)) (hk _ (by omega))
          have hKt : NumMap wr mb nn texts (allLabs bs) := HNM.out.kept (HA.out.block (k := mb) hml HMO.out)
          have hse : ∀ x ∈ y.1, x ∈ allLabs bs ∧ ShortL x := fun x hx => by
            have hx2 : x ∈ allLabs bs := List.mem_flatMap.2 ⟨y, hym, hx⟩
            exact ⟨hx2, HSh.out x hx2⟩
          have hs2 := HA.out.grown.size
          have hnt : some mb ≠ u4.ownBlock := HA.out.ne hml HMO.out
          obtain ⟨W, hW⟩ : ∃ W, W = wr.alloc (.cells #[.slice la y.1.length lc, .slice sa y.2.length sc] 38) := ⟨_, rfl⟩
          have hWk : ∀ q, q < wr.heap.size → W.heap[q]? = wr.heap[q]? := fun q hq => by rw [hW]; exact heap_alloc_old wr _ hq
          have hWs : W.heap.size = wr.heap.size + 1 := by rw [hW]; simp
          have C := hide (appendSeries_any w.heap.size B mb nn u4 _ _ _ texts (allLabs bs) y.1 y.2 W (by rw [hW]; exact (HA.out.alloc _).bytes) (by have := HLZ.out; omega) (by omega) hB h3 (hTw.kept (hWk _ (by omega)) (hWk _ (by omega)))
            (hKt.kept (hWk mb (by omega))) hse (by omega) (by omega) hnt (hLa.kept fun q hq => hWk q (by omega)) (by omega) (hSa.kept fun q hq => hWk q (by omega)) hys.1 (by have := hys.2; omega))
          have HE := hide (seriesAll_take texts bs j y hy)
          have HW := hide hW
          clear hy hym hyl hys hk hLa hSa hTw hKt hnt hWk hWs hW hse
          go_wp2_with fail
          rw [← HW.out]
          refine C.out.mono ?_
          rintro e w5 ⟨o5, rfl, A5⟩
          have A6 : App w.heap.size wm om w5 o5 (Pl.varint texts.length ++ textsBytes texts ++ Pl.varint bs.length ++ seriesAll texts (bs.take (j + 1))) := by
            rw [HW.out] at A5
            have h := HA.out.trans A5.of_alloc
            rw [HE.out]
            simpa only [List.append_assoc] using h
          have HA6 := hide A6
          clear A5 A6 C m0 m1
          go_wp2
          go_roundw
          case rel => exact ⟨j + 1, by omega, by go_num, HA6.out⟩
          case measure => simp [intOf]; omega
        · have hje : j = bs.length := by omega
          rw [hje, List.take_of_length_le (Nat.le_refl _), ← HP.out] at HA
          clear hje
          go_wp2
          go_ret
          exact ⟨_, rfl, HA.out.bytes, HB1.out.trans ((Below.refl _ _).grown (HAm.out.trans HA.out).grown hs1 (fun k e => by simp [Value.ownBlock] at e))⟩
end Go.Proofs.YtamcclcbmenjdaaGreatDoor

/- sumBytes, Pack. -/
namespace Go.Proofs.YtamcclcbmenjdaaGreatDoor
open Go.RowKit Go.Lib

theorem fold_push (l : List UInt8) (s : ByteArray) : (l.map fun b => (b.toNat : Int)).foldl (fun r (n : Int) => r.push (UInt8.ofNat n.toNat)) s = ⟨s.data ++ l.toArray⟩ := by
  induction l generalizing s with
  | nil => simp
  | cons b l ih =>
    rw [List.map_cons, List.foldl_cons, ih]
    have e : (s.push (UInt8.ofNat ((b.toNat : Int)).toNat)).data = s.data.push b := by simp [ByteArray.push]
    rw [e]
    simp
/-- string(b), b a slice of bytes that the call owns. -/
theorem run_string_of {w : World} {base : Nat} {v : Value} {xs : List UInt8} (h : Bytes base w v xs) (hx : 0 < xs.length) :
    (convert 83 9 v).run Tryz.prog w = .ok (.string ⟨xs.toArray⟩) w := by
  obtain ⟨g, cap, rfl, _⟩ := ownsRow_some h hx
  rw [run_convert_bytes_string w _ _ _ _ _ _ Tryz.underlying83 Tryz.underlying5 Tryz.underlying9]
  have hc := World.ownsRow.cells (g := g) h rfl
  have hl : (loadCells ⟨g, 0, none⟩ xs.length).run Tryz.prog w = .ok ((xs.map fun b => (b.toNat : Int)).map (Value.int .u8)).toArray w := by
    have := run_firstCells_some (P := Tryz.prog) w 1 xs.length ⟨g, 0, none⟩ xs.length cap (Pl.Bs xs) (by rw [Pl.Bs_length]; omega) hc
    simp only [Builtin.firstCells, Nat.mul_one] at this
    rw [List.map_map]
    simpa [Pl.Bs, Function.comp_def, show Pl.B = fun x => Value.int .u8 x.toNat from rfl] using this
  rw [run_bytesToString w ⟨g, 0, none⟩ xs.length cap (xs.map fun b => (b.toNat : Int)) hl, fold_push]
  simp

/-- A number of 32 bits, the low byte first; the high byte first. -/
def le32 (n : Nat) : List UInt8 := [UInt8.ofNat (n % 256), UInt8.ofNat (n / 256 % 256), UInt8.ofNat (n / 65536 % 256), UInt8.ofNat (n / 16777216 % 256)]
def be32 (n : Nat) : List UInt8 := [UInt8.ofNat (n / 16777216 % 256), UInt8.ofNat (n / 65536 % 256), UInt8.ofNat (n / 256 % 256), UInt8.ofNat (n % 256)]
theorem Bs_le32 (n : Nat) : Pl.Bs (le32 n) = [.int .u8 ((n % 256 : Nat) : Int), .int .u8 ((n / 256 % 256 : Nat) : Int), .int .u8 ((n / 65536 % 256 : Nat) : Int), .int .u8 ((n / 16777216 % 256 : Nat) : Int)] := by
  simp only [le32, Pl.Bs, List.map_cons, List.map_nil, Pl.B]
  rw [Pl.u8_ofNat _ (by omega), Pl.u8_ofNat _ (by omega), Pl.u8_ofNat _ (by omega), Pl.u8_ofNat _ (by omega)]
theorem Bs_be32 (n : Nat) : Pl.Bs (be32 n) = [.int .u8 ((n / 16777216 % 256 : Nat) : Int), .int .u8 ((n / 65536 % 256 : Nat) : Int), .int .u8 ((n / 256 % 256 : Nat) : Int), .int .u8 ((n % 256 : Nat) : Int)] := by
  simp only [be32, Pl.Bs, List.map_cons, List.map_nil, Pl.B]
  rw [Pl.u8_ofNat _ (by omega), Pl.u8_ofNat _ (by omega), Pl.u8_ofNat _ (by omega), Pl.u8_ofNat _ (by omega)]

theorem Bs_le (n : Nat) (h : n ≤ 4294967295) : Pl.Bs (le32 n) = [.int .u8 ((n : Int) % 256), .int .u8 ((n : Int) / 256 % 256), .int .u8 ((n : Int) / 65536 % 256), .int .u8 ((n : Int) / 16777216)] := by
  rw [Bs_le32]
  have e1 : ((n % 256 : Nat) : Int) = (n : Int) % 256 := by omega
  have e2 : ((n / 256 % 256 : Nat) : Int) = (n : Int) / 256 % 256 := by omega
  have e3 : ((n / 65536 % 256 : Nat) : Int) = (n : Int) / 65536 % 256 := by omega
  have e4 : ((n / 16777216 % 256 : Nat) : Int) = (n : Int) / 16777216 := by omega
  rw [e1, e2, e3, e4]

set_option maxHeartbeats 400000 in
theorem sumBytes_any (s : ByteArray) (w : World) (hs : s.size ≤ maxLen) :
    Calls Tryz.prog 84 #[.string s] w fun e w' => ∃ v, e = .returned v ∧ Bytes w.heap.size w' v (le32 (Pl.crc s.data.toList)) ∧ Below w.heap.size w w' := by
  have hlt := Pl.crc_lt s.data.toList
  have C := hide (sum_any s w hs)
  generalize Pl.crc s.data.toList = n at *
  go_enter Tryz.func84, Tryz.ntmps84
  go_wp2_with fail
  refine C.out.mono ?_
  rintro e w' ⟨rfl, rfl⟩
  have hlt2 : n ≤ 4294967295 := by omega
  clear hlt C
  go_wp2
  go_ret
  refine ⟨_, rfl, ?_, (Below.refl _ _).alloc (Nat.le_refl _) _⟩
  have h := World.ownsRow_lit (base := w'.heap.size) (e := 5) (size := 1) w' #[.int .u8 ((n : Int) % 256), .int .u8 ((n : Int) / 256 % 256), .int .u8 ((n : Int) / 65536 % 256), .int .u8 ((n : Int) / 16777216)] 4 (Nat.le_refl _) (by decide) rfl
  unfold Bytes
  rw [Bs_le n hlt2]
  exact h

theorem row_add {W : World} {g : Nat} {C : List Value} (h : ∀ j, W.cell? ⟨g, j, none⟩ = C[j]?) : ∀ j v, C[j]? = some v → W.cell? ((⟨g, 0, none⟩ : Addr).add j) = some v := by
  intro j v hv
  have hadd : (⟨g, 0, none⟩ : Addr).add j = ⟨g, j, none⟩ := by unfold Addr.add; split <;> simp_all
  rw [hadd, h j]; exact hv
theorem Bs_be (n : Nat) (h : n ≤ 65535) : Pl.Bs (be32 n) = [.int .u8 ((n : Int) / 16777216), .int .u8 ((n : Int) / 65536), .int .u8 ((n : Int) / 256), .int .u8 ((n : Int) % 256)] := by
  rw [Bs_be32]
  have e1 : ((n % 256 : Nat) : Int) = (n : Int) % 256 := by omega
  have e2 : ((n / 256 % 256 : Nat) : Int) = (n : Int) / 256 := by omega
  have e3 : ((n / 65536 % 256 : Nat) : Int) = (n : Int) / 65536 := by omega
  have e4 : ((n / 16777216 % 256 : Nat) : Int) = (n : Int) / 16777216 := by omega
  rw [e1, e2, e3, e4]
/-- The frame of a payload. -/
def headOf (p : List UInt8) : List UInt8 := [67, 72, 1] ++ be32 p.length ++ p
def frameOf (p : List UInt8) : List UInt8 := headOf p ++ le32 (Pl.crc (headOf p))

section
variable {P : Program} (w : World)
/-- append onto a slice that has no room: a new row. -/
theorem wpList_append_full {ops : Array Oper} {rest : List Oper} {o : Oper} {a : Act} {Q : Exit → Act → World → Prop} (hgd : o.guard = none) (s x : Operand) (t : TypeId)
    (ho : o.op = .call { callee := .builtin .append, args := #[s, x], argTypes := #[t, t] })
    (e : TypeId) (i : TypeInfo) (z : Value) (bytes : Nat) (ht : P.underlying t = some (.slice e)) (hi : P.info? e = some i) (hz : i.zero = some z)
    (hsize : i.size = 1) (hby : i.bytes = bytes) (hzs : z.cells.size = 1)
    (b : Addr) (n : Nat) (olds : List Value) (hs : a.eval s = .slice (some b) n n) (hlo : olds.length = n) (holds : ∀ j v, olds[j]? = some v → w.cell? (b.add j) = some v)
    (ad : Addr) (m c : Nat) (news : List Value) (hx : a.eval x = .slice (some ad) m c) (hl : news.length = m) (hnews : ∀ j u, news[j]? = some u → w.cell? (ad.add j) = some u) (hm : 0 < m)
    (h63 : n + m ≤ maxLen) (hbytes : (n + m) * bytes ≤ 140737488355328)
    (h : ∀ v' w', w'.ownsRow w.heap.size e 1 v' (n + m) (olds ++ news) → Below w.heap.size w w' → wpList P ops Q rest (a.put o.dst v') w') : wpList P ops Q (o :: rest) a w := by
  refine wpList_plain hgd fun K hK => ?_
  have hsmall : n + m ≤ 9223372036854775807 := by simp only [maxLen] at h63; omega
  have hr := run_append_grow (P := P) w t o.type e i z ht hi hz b n n olds (by rw [hsize]; omega) holds ad m c news (by rw [hsize]; omega) hnews (by omega) (by omega) (growslice_fits (by omega) (by rw [hby]; exact hbytes))
  unfold Oper.wp execOp
  simp only [ho, resolve, invoke, builtin, Sem.run_bind, Sem.run_pure, Result.andThen_ok, List.map_toArray, List.map_cons, List.map_nil, hs, hx, hr]
  have hge := grownCap_ge w (n + m) n e
  have hcm : grownCap w (n + m) n e ≤ maxLen := grownCap_le_maxLen w (n + m) n e h63
  refine hK _ _ (h _ _ ⟨by simp; omega, .inr ⟨w.heap.size, _, _, rfl, Nat.le_refl _, _root_.Go.heap_alloc_new w.drew _, hge, hcm, ?_, ?_⟩⟩ (((Below.refl _ _).drew).alloc (Nat.le_refl _) _))
  · simp only [Array.size_append, List.size_toArray, size_zeroCells, hzs, hlo, hl]; omega
  · simp only [Array.toList_append, List.append_assoc]
    rw [← List.append_assoc, show (n + m) * 1 = (olds ++ news).length by simp; omega]
    exact List.take_left
end

set_option maxRecDepth 100000 in
set_option maxHeartbeats 400000 in
theorem Pack_any (B : Nat) (v : Value) (bs : List Ser) (w : World) (hb : BatchAt w B v bs) (hB : B ≤ w.heap.size) (hT : Tabs w) (hF : Fits bs) (hpl : (payload bs).length ≤ 60000) (hpp : 0 < (payload bs).length) :
    Calls Tryz.prog 47 #[v] w fun e w' => e = .returned (.string ⟨(frameOf (payload bs)).toArray⟩) ∧ Below w.heap.size w w' := by
  obtain ⟨i0, hi, hz0, hz1, hz2⟩ := info_parts Tryz.infoU8
  have C := hide (packPayload_any B v bs w hb hB hT hF)
  have kc := fun (w : World) (C : Array Value) (n c : Nat) => Lib.run_convert_bytes_const (P := Tryz.prog) w 83 5 C n c Tryz.underlying83 Tryz.underlying5
  generalize payload bs = p at *
  clear hb hT hF
  go_enter Tryz.func47, Tryz.ntmps47
  go_wp2_with fail
  refine C.out.mono ?_
  rintro e w1 ⟨pv, rfl, hp, hb1⟩
  have hpn : ∃ pa pc, pv = .slice pa p.length pc := by
    rcases hp.2 with ⟨h1, h2⟩ | ⟨g, cap, cur, h1, _⟩
    · exact ⟨_, _, by rw [h1, ← h2]⟩
    · exact ⟨_, _, h1⟩
  obtain ⟨pa, pc, hpv⟩ := hpn
  rw [hpv] at hp ⊢
  have HP := hide hp
  have HB1 := hide hb1
  clear hp hb1 hpv C
  have hp0 : 0 ≤ p.length := Nat.zero_le _
  go_wp2_with (first | (at_builtin; refine wpList_append_full _ rfl (.tmp 11) (.tmp 23) 83 rfl 5 i0 (.int .u8 0) 1 Tryz.underlying83 hi hz0 hz1 hz2 rfl ⟨w1.heap.size, 0, none⟩ 3 [.int .u8 67, .int .u8 72, .int .u8 1] rfl rfl ?d1 ⟨w1.heap.size + 1, 0, none⟩ 4 4 [.int .u8 ((p.length : Int) / 16777216), .int .u8 ((p.length : Int) / 65536), .int .u8 ((p.length : Int) / 256), .int .u8 ((p.length : Int) % 256)] rfl rfl ?d2 (by decide) (by decide) (by decide) ?_))
  case d1 =>
    refine row_add fun j => ?_
    rw [World.cell?_alloc_lt _ _ _ (by simp), World.cell?_alloc_mark]; simp
  case d2 =>
    refine row_add fun j => ?_
    have h := World.cell?_alloc_new (w1.alloc (.cells #[.int .u8 67, .int .u8 72, .int .u8 1] 5 (3, 4))) #[.int .u8 ((p.length : Int) / 16777216), .int .u8 ((p.length : Int) / 65536), .int .u8 ((p.length : Int) / 256), .int .u8 ((p.length : Int) % 256)] 5 j
    simp only [World.size_alloc] at h
    rw [h]; simp
  intro v2 w2 hown2 hb2
  have B2 : Bytes (w1.heap.size + 1 + 1) w2 v2 ([67, 72, 1] ++ be32 p.length) := by
    refine bytes_app (n := 7) ?_
    rw [Bs_be p.length (by omega)]; exact hown2
  have hb2' : Below w1.heap.size w1 w2 := (((Below.refl w1.heap.size w1).alloc (Nat.le_refl _) _).alloc (by simp) _).trans (hb2.mono (by omega))
  have hpos : 0 < p.length := hpp
  obtain ⟨g, pc', hpv, hg⟩ := ownsRow_some HP.out hpos
  cases hpv
  have hgl : g < w1.heap.size := (World.ownsRow.lt HP.out g rfl).2
  have hcp : ∀ j u, (Pl.Bs p)[j]? = some u → w2.cell? ((⟨g, 0, none⟩ : Addr).add j) = some u := World.ownsRow.cells (g := g) (HP.out.kept (w' := w2) fun q e => by
    obtain rfl : g = q := by simpa [Value.ownBlock] using e
    exact hb2'.block g hgl) rfl
  have HC := hide hcp
  have HB2 := hide (HB1.out.trans (hb2'.mono HB1.out.size))
  have HBy := hide B2
  have hsz2 : w1.heap.size + 1 + 1 ≤ w2.heap.size := by have := hb2.size; simp at this; omega
  have hs1 := HB1.out.size
  have hhl : ([67, 72, 1] ++ be32 p.length).length = 7 := rfl
  clear hown2 hb2 B2 hb2' hcp HP HB1
  go_wp2_with (first | (at_builtin; refine wpList_append_heir _ rfl (.tmp 25) (.tmp 26) 83 rfl (w1.heap.size + 1 + 1) 5 i0 (.int .u8 0) 1 1 Tryz.underlying83 hi hz0 hz1 hz2 rfl (by decide) _ _ _ rfl HBy.out ⟨g, 0, none⟩ p.length pc (Pl.Bs p) rfl ?c0 ?c1 ?c2 ?c3 ?c4 hsz2 ?_))
  case c0 => rw [Pl.Bs_length, Nat.mul_one]
  case c1 => exact HC.out
  case c2 => exact oneBs _
  case c3 => unfold maxLen; rw [hhl]; omega
  case c4 => rw [hhl]; omega
  intro v3 w3 hown3 hgrow3 hheir3
  have B3 : Bytes (w1.heap.size + 1 + 1) w3 v3 (headOf p) := bytes_app hown3
  have hb3 : Below w.heap.size w w3 := HB2.out.trans ((Below.refl _ _).grown hgrow3 (by omega) (fun k e => by have := (World.ownsRow.lt HBy.out k e).1; omega))
  have hhd : (headOf p).length ≤ 60007 := by unfold headOf; rw [List.length_append, hhl]; omega
  have hcv := run_string_of B3 (by unfold headOf; simp)
  have CS := hide (sumBytes_any ⟨(headOf p).toArray⟩ w3 (by show (headOf p).toArray.size ≤ _; simp; unfold maxLen; omega))
  have HB3 := hide hb3
  have HY3 := hide B3
  have hsz3 : w1.heap.size + 1 + 1 ≤ w3.heap.size := by have := hgrow3.size; omega
  clear hown3 hgrow3 hheir3 B3 hb3 HC HBy HB2
  go_wp2_with fail
  refine CS.out.mono ?_
  rintro e w4 ⟨sv, rfl, hsb, hb4⟩
  obtain ⟨g4, c4, hsv, hg4⟩ := ownsRow_some hsb (by simp [le32])
  rw [hsv] at hsb ⊢
  have hB4 : Bytes (w1.heap.size + 1 + 1) w4 v3 (headOf p) := HY3.out.kept fun k e => hb4.block k (World.ownsRow.lt HY3.out k e).2
  have hcs : ∀ j u, (Pl.Bs (le32 (Pl.crc (headOf p))))[j]? = some u → w4.cell? ((⟨g4, 0, none⟩ : Addr).add j) = some u := World.ownsRow.cells (g := g4) hsb rfl
  have HC4 := hide hcs
  have HY4 := hide hB4
  have HB4 := hide (HB3.out.trans (hb4.mono HB3.out.size))
  have hsz4 : w1.heap.size + 1 + 1 ≤ w4.heap.size := by have := hb4.size; omega
  have h4l : (le32 (Pl.crc (headOf p))).length = 4 := rfl
  clear hB4 hcs hsb hb4 hsv CS HY3 HB3 hcv
  go_wp2_with (first | (at_builtin; refine wpList_append_heir _ rfl (.tmp 28) (.tmp 31) 83 rfl (w1.heap.size + 1 + 1) 5 i0 (.int .u8 0) 1 1 Tryz.underlying83 hi hz0 hz1 hz2 rfl (by decide) _ _ _ rfl HY4.out ⟨g4, 0, none⟩ 4 c4 (Pl.Bs (le32 (Pl.crc (headOf p)))) rfl rfl ?c1 ?c2 ?c3 ?c4 hsz4 ?_))
  case c1 => exact HC4.out
  case c2 => exact oneBs _
  case c3 => unfold maxLen; omega
  case c4 => omega
  intro v5 w5 hown5 hgrow5 hheir5
  have B5 : Bytes (w1.heap.size + 1 + 1) w5 v5 (frameOf p) := bytes_app hown5
  have hcv := run_string_of B5 (by unfold frameOf headOf; simp)
  have HB5 := hide (HB4.out.trans ((Below.refl _ _).grown hgrow5 (by omega) (fun k e => by have := (World.ownsRow.lt HY4.out k e).1; omega)))
  clear hown5 hgrow5 hheir5 B5 HC4 HY4 HB4
  go_wp2
  go_ret
  exact ⟨rfl, HB5.out⟩
end Go.Proofs.YtamcclcbmenjdaaGreatDoor

/- Check, Encode. -/
namespace Go.Proofs.YtamcclcbmenjdaaGreatDoor
open Go.RowKit Go.Lib

theorem fits_of {bs : List Ser} (h1 : BatchOk bs) (h2 : LimitsOk bs) : Fits bs := by
  have hg : ∀ s ∈ bs, ∃ i, i < bs.length ∧ bs[i]? = some s := fun s hs => by
    obtain ⟨i, hi, e⟩ := List.mem_iff_getElem.1 hs
    exact ⟨i, hi, by rw [List.getElem?_eq_getElem hi, e]⟩
  refine ⟨h2.2, fun s hs => ?_, fun s hs => ?_, fun s hs l hl => ?_⟩
  · obtain ⟨i, hi, e⟩ := hg s hs; exact (h2.1 i s hi e).1
  · obtain ⟨i, hi, e⟩ := hg s hs; exact ⟨(h1.1 i s hi e).2.1, (h2.1 i s hi e).2⟩
  · obtain ⟨i, hi, e⟩ := hg s hs
    obtain ⟨j, hj, e2⟩ := List.mem_iff_getElem.1 hl
    have := (h1.1 i s hi e).1.1 j l hj (by rw [List.getElem?_eq_getElem hj, e2])
    exact ⟨this.2.1, this.2.2⟩
theorem varint_pos (n : Nat) : 0 < (Pl.varint n).length := by
  unfold Pl.varint Pl.varintF; split <;> simp
theorem payload_bounds {bs : List Ser} (h : Fits bs) : (payload bs).length ≤ 60000 ∧ 0 < (payload bs).length := by
  have h1 := Pl.varint_length (sortedTexts (allTexts bs)).length
  have hp := varint_pos (sortedTexts (allTexts bs)).length
  have hs := allTexts_small bs h
  have h2 := textsBytes_len (sortedTexts (allTexts bs)) fun x hx => hs.2 x (sortedTexts_mem hx)
  have h3 := sortedTexts_len (allTexts bs)
  have h4 := Pl.varint_length bs.length
  have h5 := seriesAll_len (sortedTexts (allTexts bs)) bs fun s hs => ⟨h.labels s hs, (h.samples s hs).2⟩
  have h6 := h.series
  have h7 := hs.1
  simp only [payload, List.length_append]
  constructor <;> omega

set_option maxRecDepth 100000 in
set_option maxHeartbeats 400000 in
/-- Encode: the error, or the frame. -/
theorem encode_any (B : Nat) (v : Value) (bs : List Ser) (w : World) (hS : BatchAt w B v bs) (hB : B ≤ w.heap.size) (hT : Tabs w) (hsm : Small bs) :
    Calls Tryz.prog 32 #[v] w fun e w' => (∃ n : Nat, Code bs n ∧ e = .returned (.tuple #[.string (if n = 0 then ⟨(frameOf (payload bs)).toArray⟩ else ByteArray.empty), .int .i64 n])) ∧ Below w.heap.size w w' := by
  obtain ⟨va, vc, rfl, _⟩ := id hS
  have C1 := hide (check_any B w.heap.size _ bs (w.alloc (.cells #[.slice va bs.length vc] 39)) (World.cell?_alloc_new _ _ _ 0) (hS.kept fun k hk => heap_alloc_old w _ (by omega)) (by simp) (by simp; omega) hsm)
  have HS := hide hS
  have HT := hide hT
  have h3 := hT.lt
  clear hS hsm hT
  go_enter Tryz.func32, Tryz.ntmps32
  go_wp2_with fail
  refine C1.out.mono ?_
  rintro e w1 ⟨⟨n, rfl, hn⟩, hb1⟩
  have hb1 : Below w.heap.size w w1 := ((Below.refl w.heap.size w).alloc (Nat.le_refl _) _).trans (hb1.mono (by simp))
  have HB1 := hide hb1
  have HN := hide hn
  by_cases h0 : n = 0
  · subst h0
    have hok : BatchOk bs ∧ LimitsOk bs := by
      rcases hn with ⟨h, _⟩ | ⟨h, _⟩ | ⟨_, h⟩
      · cases h
      · cases h
      · exact h
    have hF := fits_of hok.1 hok.2
    have hp := payload_bounds hF
    have C2 := hide (Pack_any B _ bs w1 (HS.out.below hb1 hB) (by have := hb1.size; omega) (HT.out.below hb1 (by omega)) hF hp.1 hp.2)
    clear hb1 hn hok hF hp C1
    go_wp2_with fail
    refine C2.out.mono ?_
    rintro e w2 ⟨rfl, hb2⟩
    have HB2 := hide (HB1.out.trans (hb2.mono HB1.out.size))
    clear hb2
    go_wp2
    go_ret2
    exact ⟨⟨0, HN.out, rfl⟩, HB2.out⟩
  · have hne : ((n : Int) != 0) = true := by simp; omega
    have HE : Hid ((if n = 0 then (⟨(frameOf (payload bs)).toArray⟩ : ByteArray) else ByteArray.empty) = ByteArray.empty) := if_neg h0
    clear hb1 hn C1
    go_wp2
    go_ret2
    exact ⟨⟨n, HN.out, by rw [HE.out]; rfl⟩, HB1.out⟩
end Go.Proofs.YtamcclcbmenjdaaGreatDoor

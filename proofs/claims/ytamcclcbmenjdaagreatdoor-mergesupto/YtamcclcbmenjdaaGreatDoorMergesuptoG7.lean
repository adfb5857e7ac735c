/- 'choirlaw.Merges', for any list of texts of bulk at most 1048576: Merge answers the document's frame or error; what is handed in stays. The second form's statement and its card: its only condition is the row's own bound on the argument's bulk. -/
import Derived.Test.YtamcclcbmenjdaaGreatDoorMergesuptoG6
/- numbersOf. -/
namespace Go.Proofs.YtamcclcbmenjdaaGreatDoor
open Go.RowKit Go.Lib

/-- All labels, in their order. -/
def allLabs (bs : List Ser) : List Lab := bs.flatMap fun s => s.1
theorem allLabs_take (l : List Ser) (k : Nat) (x : Ser) (h : l[k]? = some x) : allLabs (l.take (k + 1)) = allLabs (l.take k) ++ x.1 := by
  obtain ⟨hk, hx⟩ := List.getElem?_eq_some_iff.1 h
  rw [List.take_succ_eq_append_getElem hk, hx, allLabs, List.flatMap_append]
  simp [allLabs]
/-- What holds while the map fills. -/
structure Filling (w W : World) (mb : Nat) (texts : List ByteArray) (seen : List Lab) : Prop where
  map : ∃ n, n ≤ seen.length ∧ NumMap W mb n texts seen
  below : Below w.heap.size w W
theorem Filling.alloc {w W : World} {mb : Nat} {texts : List ByteArray} {seen : List Lab} (h : Filling w W mb texts seen) (o : Obj) : Filling w (W.alloc o) mb texts seen := by
  obtain ⟨n, hn, hm⟩ := h.map
  exact ⟨⟨n, hn, hm.kept (heap_alloc_old W o hm.lt)⟩, h.below.alloc h.below.size o⟩

set_option maxRecDepth 100000 in
set_option maxHeartbeats 1000000 in
theorem numbersOf_any (B tb : Nat) (v tv : Value) (bs : List Ser) (texts : List ByteArray) (w : World) (hb : BatchAt w B v bs) (hB : B ≤ w.heap.size) (hbl : bs.length ≤ 100) (hll : ∀ s ∈ bs, s.1.length ≤ 100) (hsh : ∀ x ∈ allLabs bs, ShortL x)
    (ht : TextsAt w tv tb texts) (htl : texts.length ≤ 1000000) (htb : tb < w.heap.size) :
    Calls Tryz.prog 112 #[v, tv] w fun e w' => ∃ mb n, e = .returned (.map (some mb)) ∧ w.heap.size ≤ mb ∧ NumMap w' mb n texts (allLabs bs) ∧ Below w.heap.size w w' := by
  obtain ⟨a, cap, rfl, hcap, hb2⟩ := hb
  have hcS : ∀ k y, bs[k]? = some y → ∃ b o lv sa sn sc, a = some ⟨b, o, none⟩ ∧ b < B ∧ w.cell? ⟨b, o + k * 2, none⟩ = some lv ∧ w.cell? ⟨b, o + k * 2 + 1, none⟩ = some (.slice sa sn sc) ∧ LabelsAt w B lv y.1 := by
    intro k y hy
    rcases hb2 with h | ⟨b, o, ha, hbb, hc⟩
    · rw [h] at hy; cases hy
    · obtain ⟨lv, sv, h1, h2, h3, sa, sc, rfl, _⟩ := hc k y hy
      exact ⟨b, o, lv, sa, _, sc, ha, hbb, h1, h2, h3⟩
  have hcn : ∀ (X : ByteArray) (W : World), TextsAt W tv tb texts → Calls Tryz.prog 137 #[tv, .string X] W fun e w' => e = .returned (.int .i64 (placeOf texts X)) ∧ w'.heap = W.heap ∧ Below W.heap.size W w' := by
    intro X W hT
    refine (numberOf_any tv tb texts X W hT htl).mono ?_
    rintro e w' ⟨rfl, q, rfl⟩
    exact ⟨rfl, rfl, below_drewN (Below.refl _ _) q⟩
  have C := hide hcn
  have HC := hide hcS
  have HL := hide hll
  have HSh := hide hsh
  have HTx := hide ht
  have F0 : Filling w (w.alloc (.map #[] 0)) w.heap.size texts (allLabs (bs.take 0)) := ⟨⟨0, Nat.zero_le _, by simpa [allLabs] using NumMap.made w texts⟩, (Below.refl _ _).alloc (Nat.le_refl _) _⟩
  have HF0 := hide F0
  clear hcS hb2 hll hsh ht hcn F0
  have hmm := @run_makeMap Tryz.prog
  go_enter Tryz.func112, Tryz.ntmps112
  go_wp2
  clear hmm
  go_loopw [7, 9, 10, 11, 15] (fun _ _ _ _ i wr => ∃ k : Nat, k ≤ bs.length ∧ i = .int .i64 k ∧ Filling w wr w.heap.size texts (allLabs (bs.take k))) (fun _ _ _ _ i _ => bs.length - (intOf i).toNat)
  case atStart => exact ⟨0, Nat.zero_le _, rfl, HF0.out⟩
  case round =>
    obtain ⟨k, hk, rfl, hX⟩ := hrel
    have HX := hide hX
    clear hX
    by_cases hlt : k < bs.length
    · obtain ⟨y, hy⟩ : ∃ y, bs[k]? = some y := ⟨_, List.getElem?_eq_getElem hlt⟩
      obtain ⟨b, o, lv, sa, sn, sc, rfl, hbB, hc1, hc2, hL⟩ := HC.out k y hy
      have hbw : b < w.heap.size := by omega
      have m0 : wr.cell? ⟨b, o + k * 2, none⟩ = some lv := (HX.out.below.cell (p := ⟨b, o + k * 2, none⟩) hbw).trans hc1
      have m1 : wr.cell? ⟨b, o + k * 2 + 1, none⟩ = some (.slice sa sn sc) := (HX.out.below.cell (p := ⟨b, o + k * 2 + 1, none⟩) hbw).trans hc2
      have hym := List.mem_of_getElem? hy
      have hyl := HL.out y hym
      have hsy : ∀ x ∈ y.1, ShortL x := fun x hx => HSh.out x (List.mem_flatMap.2 ⟨y, hym, hx⟩)
      obtain ⟨la, lcap, rfl, hlc, hL2⟩ := hL
      have HE := hide (allLabs_take bs k y hy)
      have HSy := hide hsy
      have HL2 := hide hL2
      have hal : (allLabs (bs.take k)).length ≤ 100 * k := by
        have h1 : ∀ l : List Ser, (∀ s ∈ l, s.1.length ≤ 100) → (allLabs l).length ≤ 100 * l.length := by
          intro l
          induction l with
          | nil => intro _; simp [allLabs]
          | cons x r ih =>
            intro hl
            have h2 := hl x (by simp)
            have h3 := ih fun s hs => hl s (by simp [hs])
            simp only [allLabs, List.flatMap_cons, List.length_append, List.length_cons] at h3 ⊢
            omega
        have h2 := h1 (bs.take k) (fun s hs => HL.out s (List.mem_of_mem_take hs))
        have h3 : (bs.take k).length ≤ k := List.length_take_le _ _
        omega
      have hws : w.heap.size ≤ wr.heap.size := HX.out.below.size
      clear hc1 hc2 hy hym hL2 hsy
      have HX1 := hide (HX.out.alloc (.cells #[.slice la y.1.length lcap, .slice sa sn sc] 38))
      go_wp2
      go_loopw [9, 10, 11, 22] (fun _ _ _ i wr => ∃ j : Nat, j ≤ y.1.length ∧ i = .int .i64 j ∧ Filling w wr w.heap.size texts (allLabs (bs.take k) ++ y.1.take j)) (fun _ _ _ i _ => y.1.length - (intOf i).toNat)
      case atStart => exact ⟨0, Nat.zero_le _, rfl, by simpa using HX1.out⟩
      case round =>
        obtain ⟨j, hj, rfl, hY⟩ := hrel
        have HY := hide hY
        clear hY HX HX1 m0 m1
        by_cases hjl : j < y.1.length
        · obtain ⟨⟨ky, vy⟩, hyj⟩ : ∃ x, y.1[j]? = some x := ⟨_, List.getElem?_eq_getElem hjl⟩
          have hc : ∃ lb lo, la = some ⟨lb, lo, none⟩ ∧ lb < B ∧ w.cell? ⟨lb, lo + j * 2, none⟩ = some (.string ky) ∧ w.cell? ⟨lb, lo + j * 2 + 1, none⟩ = some (.string vy) := by
            rcases HL2.out with h | ⟨lb, lo, ha, hlb, hcc⟩
            · rw [h] at hyj; cases hyj
            · exact ⟨lb, lo, ha, hlb, (hcc j (ky, vy) hyj).1, (hcc j (ky, vy) hyj).2⟩
          obtain ⟨lb, lo, rfl, hlb, hc1, hc2⟩ := hc
          have hlw : lb < w.heap.size := by omega
          have m0 : wr.cell? ⟨lb, lo + j * 2, none⟩ = some (.string ky) := (HY.out.below.cell (p := ⟨lb, lo + j * 2, none⟩) hlw).trans hc1
          have m1 : wr.cell? ⟨lb, lo + j * 2 + 1, none⟩ = some (.string vy) := (HY.out.below.cell (p := ⟨lb, lo + j * 2 + 1, none⟩) hlw).trans hc2
          have hshx := HSy.out (ky, vy) (List.mem_of_getElem? hyj)
          have HTk := hide (take_more y.1 j (ky, vy) hyj)
          obtain ⟨n, hn, hM⟩ := HY.out.map
          have hM1 : NumMap (wr.alloc (.cells #[.string ky, .string vy] 80)) w.heap.size n texts (allLabs (bs.take k) ++ y.1.take j) := hM.kept (heap_alloc_old wr _ hM.lt)
          obtain ⟨p1, p2, kk, hlook, hok⟩ := hM1.look_ok (ky, vy) hshx
          simp only at hlook
          have hws2 : w.heap.size ≤ wr.heap.size := HY.out.below.size
          have hnl : n ≤ 10100 := by
            rw [List.length_append] at hn
            have h3 : (y.1.take j).length ≤ j := List.length_take_le _ _
            omega
          obtain ⟨W, hW⟩ : ∃ W, W = (wr.alloc (.cells #[.string ky, .string vy] 80)).alloc (.cells #[.int .i64 p1, .int .i64 p2] 193) := ⟨_, rfl⟩
          have hWh : W.heap[w.heap.size]? = (wr.alloc (.cells #[.string ky, .string vy] 80)).heap[w.heap.size]? := by rw [hW]; exact heap_alloc_old _ _ hM1.lt
          have hM2 := hM1.kept hWh
          have hFW : Below w.heap.size w W := by rw [hW]; exact (HY.out.alloc _).below.alloc (by simp; omega) _
          have hok2 : kk = true → Filling w W w.heap.size texts (allLabs (bs.take k) ++ y.1.take (j + 1)) := fun hk1 => by
            refine ⟨⟨n, ?_, ?_⟩, hFW⟩
            · rw [HTk.out, ← List.append_assoc, List.length_append]; omega
            · rw [HTk.out, ← List.append_assoc]; exact (hok hk1).kept hWh
          have HW := hide hW
          have HM2 := hide hM2
          have HFW := hide hFW
          have HOk := hide hok2
          have HN := hide hn
          have HShx := hide hshx
          clear hc1 hc2 hyj hok hM hM1 hM2 hWh hFW hok2 hn hal hshx hW
          cases kk with
          | true =>
            go_wp2
            go_roundw
            case rel => exact ⟨j + 1, by omega, by go_num, by rw [← HW.out]; exact HOk.out rfl⟩
            case measure => simp [intOf]; omega
          | false =>
            obtain ⟨f, hf⟩ := HM2.out.store (ky, vy) HShx.out (by unfold maxLen; omega)
            simp only at hf
            have q0 : W.cell? ⟨wr.heap.size, 0, none⟩ = some (.string ky) := by
              have h := World.cell?_alloc_new wr #[.string ky, .string vy] 80 0
              rw [HW.out]
              exact (World.cell?_of_block (a := ⟨wr.heap.size, 0, none⟩) (heap_alloc_old _ _ (by simp))).trans h
            have q1 : W.cell? ⟨wr.heap.size, 1, none⟩ = some (.string vy) := by
              have h := World.cell?_alloc_new wr #[.string ky, .string vy] 80 1
              rw [HW.out]
              exact (World.cell?_of_block (a := ⟨wr.heap.size, 1, none⟩) (heap_alloc_old _ _ (by simp))).trans h
            have hTW : TextsAt W.drew tv tb texts := HTx.out.kept (HFW.out.block tb htb)
            obtain ⟨mo, hmo⟩ : ∃ mo, W.heap[w.heap.size]? = some mo := ⟨_, Array.getElem?_eq_getElem HM2.out.lt⟩
            have hne : wr.heap.size ≠ w.heap.size := by have := HY.out.map; obtain ⟨_, _, h⟩ := this; have := h.lt; omega
            have hmu : ∀ W' : World, W'.heap[w.heap.size]? = some mo → (Instr.mapUpdate 167 (.map (some w.heap.size)) (.agg #[.string ky, .string vy]) (.agg #[.int .i64 (placeOf texts ky), .int .i64 (placeOf texts vy)])).run Tryz.prog W' = .ok () (f W') :=
              fun W' h => (hf W' (h.trans hmo.symm)).1
            have hfc : ∀ (W' : World) (i : Nat), W'.heap[w.heap.size]? = some mo → wr.heap.size < W'.heap.size → (f W').cell? ⟨wr.heap.size, i, none⟩ = W'.cell? ⟨wr.heap.size, i, none⟩ :=
              fun W' i h h2 => World.cell?_of_block (a := ⟨wr.heap.size, i, none⟩) ((hf W' (h.trans hmo.symm)).2.2.block wr.heap.size h2 (fun e => hne (Option.some.inj e)))
            have hWs : wr.heap.size < W.heap.size := by rw [HW.out]; simp; omega
            have HMu := hide (fun W' (h : W'.heap[w.heap.size]? = some mo) => (hf W' (h.trans hmo.symm)).2)
            have HH : Hid (∀ W2 : World, W2.heap = W.heap → W2.cell? ⟨wr.heap.size, 0, none⟩ = some (.string ky) ∧ W2.cell? ⟨wr.heap.size, 1, none⟩ = some (.string vy) ∧ W2.heap[w.heap.size]? = some mo ∧ wr.heap.size < W2.heap.size ∧ TextsAt W2 tv tb texts) := by
              intro W2 h
              exact ⟨(World.cell?_of_block (a := ⟨wr.heap.size, 0, none⟩) (by show W2.heap[_]? = W.heap[_]?; rw [h])).trans q0, (World.cell?_of_block (a := ⟨wr.heap.size, 1, none⟩) (by show W2.heap[_]? = W.heap[_]?; rw [h])).trans q1, by rw [h]; exact hmo, by rw [h]; exact hWs, hTW.kept (by show W2.heap[_]? = W.heap[_]?; rw [h])⟩
            have Hmu := hide hmu
            have Hfc := hide hfc
            clear hf hmu hfc
            go_wp2
            rw [← HW.out]
            as_aux_lemma =>
              go_region_held3 (fun w' => w'.cell? ⟨wr.heap.size, 0, none⟩ = some (.string ky) ∧ w'.cell? ⟨wr.heap.size, 1, none⟩ = some (.string vy)) (go_keep) (first | (go_at_call 137; refine (C.out _ _ (by first | exact hT2 | exact hTW)).mono ?_; first | (revert hh2; intro hh2; rintro e w3 ⟨rfl, hh3, hb3⟩; obtain ⟨f0, f1, hm3, hs3, hT3⟩ := HH.out w3 (hh3.trans hh2); have hmu3 := Hmu.out w3 hm3; have f2 := (Hfc.out w3 0 hm3 hs3).trans f0; have f3 := (Hfc.out w3 1 hm3 hs3).trans f1) | (rintro e w2 ⟨rfl, hh2, hb2⟩; obtain ⟨e0, e1, hm2, hs2, hT2⟩ := HH.out w2 hh2)))
              all_goals
                have HB3 := hide (HFW.out.drew.trans ((hb2.mono (by show w.heap.size ≤ W.heap.size; omega)).trans (hb3.mono (by omega))))
                have HM3 := hide (HMu.out w3 hm3)
                clear hb2 hb3 hT2 hT3 e0 e1 f0 f1 f2 f3 q0 q1 hmu3
                go_wp2
                go_roundw
                case rel =>
                  obtain ⟨h1, h2⟩ := HM3.out
                  refine ⟨j + 1, by omega, by go_num, ⟨n + 1, ?_, ?_⟩, HB3.out.grown h2 HB3.out.size (fun k e => by cases e; exact Nat.le_refl _)⟩
                  · have := HN.out; rw [HTk.out, ← List.append_assoc, List.length_append (bs := [(ky, vy)])]; simp only [List.length_singleton]; omega
                  · rw [HTk.out, ← List.append_assoc]; exact h1
                case measure => simp [intOf]; omega
        · have hje : j = y.1.length := by omega
          rw [hje, List.take_of_length_le (Nat.le_refl _), ← HE.out] at HY
          clear hje
          go_wp2
          go_roundw
          case rel => exact ⟨k + 1, by omega, by go_num, HY.out⟩
          case measure => simp [intOf]; omega
    · have hke : k = bs.length := by omega
      rw [hke, List.take_of_length_le (Nat.le_refl _)] at HX
      clear hke
      go_wp2
      go_ret
      obtain ⟨n, _, hm⟩ := HX.out.map
      exact ⟨_, n, rfl, Nat.le_refl _, hm, HX.out.below⟩
end Go.Proofs.YtamcclcbmenjdaaGreatDoor

/- packPayload. -/
namespace Go.Proofs.YtamcclcbmenjdaaGreatDoor
open Go.RowKit Go.Lib Go.Sort

/-- Within the limits of the document. -/
structure Fits (bs : List Ser) : Prop where
  series : bs.length ≤ 8
  labels : ∀ s ∈ bs, s.1.length ≤ 4
  samples : ∀ s ∈ bs, s.2 ≠ [] ∧ s.2.length ≤ 40
  texts : ∀ s ∈ bs, ∀ l ∈ s.1, l.1.size ≤ 16 ∧ l.2.size ≤ 16

theorem sortedTexts_mem {l : List ByteArray} {x : ByteArray} (h : x ∈ sortedTexts l) : x ∈ l := by
  unfold sortedTexts Lib.compact compactUpTo at h
  obtain ⟨y, hy, rfl⟩ := List.mem_map.1 h
  obtain ⟨j, hj, rfl⟩ := List.mem_map.1 hy
  have hj2 := List.mem_range.1 (List.mem_filter.1 hj).1
  rw [getElem!_list _ j hj2]
  have hm := List.getElem_mem hj2
  obtain ⟨s, hs, he⟩ := List.mem_map.1 (List.mem_mergeSort.1 hm)
  rw [← he, str_eta]; exact hs
theorem sortedTexts_len (l : List ByteArray) : (sortedTexts l).length ≤ l.length := by
  rw [sortedTexts, List.length_map]
  refine Nat.le_trans (compact_le _) ?_
  rw [List.length_mergeSort, List.length_map]; exact Nat.le_refl _
theorem allTexts_small (bs : List Ser) (h : Fits bs) : (allTexts bs).length ≤ 64 ∧ ∀ x ∈ allTexts bs, x.size ≤ 16 := by
  constructor
  · have h1 : ∀ (l : List Ser), (∀ s ∈ l, s.1.length ≤ 4) → (allTexts l).length ≤ 8 * l.length := by
      intro l
      induction l with
      | nil => intro _; simp [allTexts]
      | cons x r ih =>
        intro hl
        have h1 := labTexts_len x.1
        have h2 := hl x (by simp)
        have h3 := ih fun s hs => hl s (by simp [hs])
        simp only [allTexts, List.flatMap_cons, List.length_append, List.length_cons] at h3 ⊢
        omega
    have := h1 bs h.labels
    have := h.series
    omega
  · intro x hx
    simp only [allTexts, labTexts, List.mem_flatMap] at hx
    obtain ⟨s, hs, l, hl, hx⟩ := hx
    have := h.texts s hs l hl
    simp at hx
    rcases hx with rfl | rfl
    · exact this.1
    · exact this.2

def textsBytes (l : List ByteArray) : List UInt8 := l.flatMap fun x => Pl.varint x.size ++ x.data.toList
def seriesAll (texts : List ByteArray) (bs : List Ser) : List UInt8 := bs.flatMap fun s => seriesBytes texts s.1 s.2
/-- The payload of a batch. -/
def payload (bs : List Ser) : List UInt8 :=
  Pl.varint (sortedTexts (allTexts bs)).length ++ textsBytes (sortedTexts (allTexts bs)) ++ Pl.varint bs.length ++ seriesAll (sortedTexts (allTexts bs)) bs

theorem textsBytes_take (l : List ByteArray) (k : Nat) (x : ByteArray) (h : l[k]? = some x) : textsBytes (l.take (k + 1)) = textsBytes (l.take k) ++ Pl.varint x.size ++ x.data.toList := by
  obtain ⟨hk, hx⟩ := List.getElem?_eq_some_iff.1 h
  rw [List.take_succ_eq_append_getElem hk, hx, textsBytes, List.flatMap_append]
  simp [textsBytes]
theorem textsBytes_len (l : List ByteArray) (h : ∀ x ∈ l, x.size ≤ 16) : (textsBytes l).length ≤ 26 * l.length := by
  induction l with
  | nil => simp [textsBytes]
  | cons x r ih =>
    have h1 := h x (by simp)
    have h2 := Pl.varint_length x.size
    have h3 := ih fun s hs => h s (by simp [hs])
    have h4 : x.data.toList.length = x.size := by rw [Array.length_toList]; rfl
    simp only [textsBytes, List.flatMap_cons, List.length_append, List.length_cons] at h3 ⊢
    omega
theorem seriesAll_take (texts : List ByteArray) (l : List Ser) (k : Nat) (x : Ser) (h : l[k]? = some x) : seriesAll texts (l.take (k + 1)) = seriesAll texts (l.take k) ++ seriesBytes texts x.1 x.2 := by
  obtain ⟨hk, hx⟩ := List.getElem?_eq_some_iff.1 h
  rw [List.take_succ_eq_append_getElem hk, hx, seriesAll, List.flatMap_append]
  simp [seriesAll]
theorem seriesBytes_len (texts : List ByteArray) (l : List Lab) (s : List (Int × Nat)) (hl : l.length ≤ 4) (hs : s.length ≤ 40) : (seriesBytes texts l s).length ≤ 6200 := by
  have h1 := Pl.varint_length l.length
  have h2 := labelsBytes_len texts l
  have h3 := Pl.varint_length s.length
  have h4 := Pl.varint_length (chunkBytes s).length
  have h5 : (chunkBytes s).length ≤ 6000 := chunkBytes_len s (by omega)
  simp only [seriesBytes, List.length_append]
  omega
theorem seriesAll_len (texts : List ByteArray) (l : List Ser) (h : ∀ s ∈ l, s.1.length ≤ 4 ∧ s.2.length ≤ 40) : (seriesAll texts l).length ≤ 6200 * l.length := by
  induction l with
  | nil => simp [seriesAll]
  | cons x r ih =>
    have h1 := h x (by simp)
    have h2 := seriesBytes_len texts x.1 x.2 h1.1 h1.2
    have h3 := ih fun s hs => h s (by simp [hs])
    simp only [seriesAll, List.flatMap_cons, List.length_append, List.length_cons] at h3 ⊢
    omega

set_option maxRecDepth 100000 in
set_option maxHeartbeats 400000 in
theorem packPayload_any (B : Nat) (v : Value) (bs : List Ser) (w : World) (hb : BatchAt w B v bs) (hB : B ≤ w.heap.size) (hT : Tabs w) (hF : Fits bs) :
    Calls Tryz.prog 82 #[v] w fun e w' => ∃ p, e = .returned p ∧ Bytes w.heap.size w' p (payload bs) ∧ Below w.heap.size w w' := by
  obtain ⟨i0, hi, hz0, hz1, hz2⟩ := info_parts Tryz.infoU8
  have h3 : 3 ≤ w.heap.size := hT.lt
  have hv := hb
  obtain ⟨a, cap, rfl, hcap, _⟩ := hv
  have hsm := allTexts_small bs hF
  have hbl := hF.series
  have C := hide (textsOf_any B _ bs w hb hB (by omega) (fun s hs => Nat.le_trans (hF.labels s hs) (by omega)) h3)
  have HP : Hid (payload bs = Pl.varint (sortedTexts (allTexts bs)).length ++ textsBytes (sortedTexts (allTexts bs)) ++ Pl.varint bs.length ++ seriesAll (sortedTexts (allTexts bs)) bs) := rfl
  have hsl : (sortedTexts (allTexts bs)).length ≤ 64 := Nat.le_trans (sortedTexts_len _) hsm.1
  have hsx : ∀ x ∈ sortedTexts (allTexts bs), x.size ≤ 16 := fun x hx => hsm.2 x (sortedTexts_mem hx)
  generalize sortedTexts (allTexts bs) = texts at *
  have HSX := hide hsx
  have HF := hide hF
  have hsh : ∀ x ∈ allLabs bs, ShortL x := fun x hx => by
    obtain ⟨s, hs, hx2⟩ := List.mem_flatMap.1 hx
    have h16 := hF.texts s hs x hx2
    exact ⟨by unfold maxLen; omega, by unfold maxLen; omega⟩
  have HSh := hide hsh
  have HB := hide hb
  have HT := hide hT
  clear hsm hb hF hT hsx hsh
  go_enter Tryz.func82, Tryz.ntmps82
  go_wp2_with fail
  refine C.out.mono ?_
  rintro e w1 ⟨t, rfl, hb1, tb, hTx, htb, htb2⟩
  have htn : ∃ ta tc, t = .slice ta texts.length tc := by
    rcases hTx.shape with ⟨h, x, c, h2⟩ | ⟨o, c, h2, _⟩
    · exact ⟨x, c, by rw [h2, h]; rfl⟩
    · exact ⟨_, c, h2⟩
  obtain ⟨ta, tc, htv⟩ := htn
  rw [htv] at hTx ⊢
  have HB1 := hide hb1
  have HTx := hide hTx
  have A0 : App w.heap.size w1 (.slice none 0 0) w1 (.slice none 0 0) [] := ⟨World.ownsRow_nil _ _ _ _, grownBy_refl _ _, Heir.refl _ _⟩
  have HA0 := hide A0
  have hs1 := hb1.size
  clear hTx htv hb1 C A0
  go_wp2_with fail
  refine (HA0.out.varint _ texts.length rfl (by omega) (by simp) hs1).mono ?_
  rintro e w2 ⟨o2, rfl, A2⟩
  have HA2 := hide A2
  clear A2
  have htk : ∀ (W : World) (o : Value) (zs : List UInt8), App w.heap.size w1 (.slice none 0 0) W o zs → TextsAt W (.slice ta texts.length tc) tb texts := fun W o zs hA => HTx.out.kept (hA.block htb (by simp [Value.ownBlock]))
  have HTK := hide htk
  clear htk
  go_wp2
  go_loopw [4, 6, 17] (fun o _ i wr => ∃ k : Nat, k ≤ texts.length ∧ i = .int .i64 k ∧ App w.heap.size w1 (.slice none 0 0) wr o (Pl.varint texts.length ++ textsBytes (texts.take k))) (fun _ _ i _ => texts.length - (intOf i).toNat)
  case atStart => exact ⟨0, Nat.zero_le _, rfl, by simpa [textsBytes] using HA2.out⟩
  case round =>
    obtain ⟨k, hk, rfl, hA⟩ := hrel
    have HA := hide hA
    have hlz : (Pl.varint texts.length ++ textsBytes (texts.take k)).length ≤ 2000 := by
      have h1 := Pl.varint_length texts.length
      have h2 := textsBytes_len (texts.take k) (fun x hx => HSX.out x (List.mem_of_mem_take hx))
      have h3 : (texts.take k).length ≤ k := List.length_take_le _ _
      rw [List.length_append]; omega
    have HLZ := hide hlz
    clear hA HA2 hlz
    by_cases hlt : k < texts.length
    · obtain ⟨x, hx⟩ : ∃ x, texts[k]? = some x := ⟨_, List.getElem?_eq_getElem hlt⟩
      have hxs := HSX.out x (List.mem_of_getElem? hx)
      have hc : ∃ to, ta = some ⟨tb, to, none⟩ ∧ wr.cell? ⟨tb, to + k, none⟩ = some (.string x) := by
        rcases (HTK.out _ _ _ HA.out).shape with ⟨h, _⟩ | ⟨o, c, h2, hcc⟩
        · rw [h] at hx; cases hx
        · cases h2; exact ⟨o, rfl, hcc k x hx⟩
      obtain ⟨to, rfl, m0⟩ := hc
      have HE := hide (textsBytes_take texts k x hx)
      have hs2 := HA.out.grown.size
      clear hx
      go_wp2_with fail
      refine (HA.out.varint _ x.size rfl (by omega) (by have := HLZ.out; omega) hs1).mono ?_
      rintro e w3 ⟨o3, rfl, A3⟩
      have HA3 := hide A3
      have hb3 : w.heap.size ≤ w3.heap.size := by have := A3.grown.size; omega
      have hl3 := Pl.varint_length x.size
      clear A3 m0
      go_wp2_with (first | (at_builtin; refine wpList_append_heir_string _ rfl (.tmp 25) (.tmp 26) 83 9 rfl w.heap.size 5 i0 Tryz.underlying83 Tryz.underlying9 hi hz0 hz1 hz2 _ _ _ rfl HA3.out.bytes x rfl ?c3 ?c4 hb3 ?_))
      case c3 => unfold maxLen; rw [List.length_append]; have h := HLZ.out; omega
      case c4 => rw [List.length_append]; have h := HLZ.out; omega
      intro v5 w5 hown5 hgrow5 hheir5
      have A5 : App w.heap.size w1 (.slice none 0 0) w5 v5 (Pl.varint texts.length ++ textsBytes (texts.take (k + 1))) := by
        have h := HA3.out.step (W' := w5) (o' := v5) (bytes_app (b := x.data.toList) hown5) hgrow5 hheir5
        rw [HE.out]
        simpa only [List.append_assoc] using h
      have HA5 := hide A5
      clear A5 hown5 hgrow5 hheir5 hl3
      go_wp2
      go_roundw
      case rel => exact ⟨k + 1, by omega, by go_num, HA5.out⟩
      case measure => simp [intOf]; omega
    · have hke : k = texts.length := by omega
      rw [hke, List.take_of_length_le (Nat.le_refl _)] at HA HLZ
      clear hke
      have hkw : ∀ q, q < w.heap.size → wr.heap[q]? = w.heap[q]? := fun q hq => (HA.out.block (k := q) (by omega) (by simp [Value.ownBlock])).trans (HB1.out.block q hq)
      have hws := HA.out.grown.size
      have CN := hide (numbersOf_any B tb _ (.slice ta texts.length tc) bs texts wr (HB.out.kept fun q hq => hkw q (by omega)) (by omega) (by omega) (fun s hs => Nat.le_trans (HF.out.labels s hs) (by omega)) HSh.out (HTK.out _ _ _ HA.out) (by omega) (by omega))
      clear hkw
      go_wp2_with fail
      refine CN.out.mono ?_
      rintro e wm ⟨mb, nn, rfl, hmb, hNM, hbm⟩
      have hmo : some mb ≠ u4.ownBlock := fun e => by have := (World.ownsRow.lt HA.out.bytes _ e.symm).2; omega
      have HMO := hide hmo
      have HNM := hide hNM
      have hml := hNM.lt
      have HAm := hide (HA.out.below hbm)
      have hsm := hbm.size
      clear CN hNM hbm hmo HA
      go_wp2_with fail
      refine (HAm.out.self.varint _ bs.length rfl (by omega) (by have := HLZ.out; omega) (by omega)).mono ?_
      rintro e w3 ⟨o3, rfl, A3⟩
      have HA3 := hide A3
      have hl3 : (Pl.varint texts.length ++ textsBytes texts ++ Pl.varint bs.length).length ≤ 2010 := by rw [List.length_append]; have h := HLZ.out; have h2 := Pl.varint_length bs.length; omega
      have HL3 := hide hl3
      clear A3 hl3 HLZ
      generalize u4 = om at *
      go_wp2
      go_loopw [4, 9, 38] (fun o _ i wr => ∃ j : Nat, j ≤ bs.length ∧ i = .int .i64 j ∧ App w.heap.size wm om wr o (Pl.varint texts.length ++ textsBytes texts ++ Pl.varint bs.length ++ seriesAll texts (bs.take j))) (fun _ _ i _ => bs.length - (intOf i).toNat)
      case atStart => exact ⟨0, Nat.zero_le _, rfl, by simpa [seriesAll] using HA3.out⟩
      case round =>
        obtain ⟨j, hj, rfl, hA⟩ := hrel
        have HA := hide hA
        have hlz : (Pl.varint texts.length ++ textsBytes texts ++ Pl.varint bs.length ++ seriesAll texts (bs.take j)).length ≤ 60000 := by
          have h1 := HL3.out
          have h2 := seriesAll_len texts (bs.take j) (fun x hx => ⟨HF.out.labels x (List.mem_of_mem_take hx), (HF.out.samples x (List.mem_of_mem_take hx)).2⟩)
          have h3 : (bs.take j).length ≤ j := List.length_take_le _ _
          rw [List.length_append]; omega
        have HLZ := hide hlz
        clear hA HA3 hlz
        by_cases hlt2 : j < bs.length
        · obtain ⟨y, hy⟩ : ∃ y, bs[j]? = some y := ⟨_, List.getElem?_eq_getElem hlt2⟩
          have hym := List.mem_of_getElem? hy
          have hyl := HF.out.labels y hym
          have hys := HF.out.samples y hym
          have hk : ∀ q, q < w.heap.size → wr.heap[q]? = w.heap[q]? := fun q hq => ((HAm.out.trans HA.out).block (k := q) (by omega) (by simp [Value.ownBlock])).trans (HB1.out.block q hq)
          have hc : ∃ b o la lc sa sc, a = some ⟨b, o, none⟩ ∧ wr.cell? ⟨b, o + j * 2, none⟩ = some (.slice la y.1.length lc) ∧ wr.cell? ⟨b, o + j * 2 + 1, none⟩ = some (.slice sa y.2.length sc) ∧ LabelsAt wr B (.slice la y.1.length lc) y.1 ∧ SamplesAt wr B (.slice sa y.2.length sc) y.2 := by
            obtain ⟨a', cap', hv', _, h2⟩ := HB.out
            cases hv'
            rcases h2 with h | ⟨b, o, ha, hbb, hcc⟩
            · rw [h] at hy; cases hy
            · obtain ⟨lv, sv, h1, h2, h3', h4⟩ := hcc j y hy
              obtain ⟨la, lc, rfl, _⟩ := id h3'
              obtain ⟨sa, sc, rfl, _⟩ := id h4
              have hbk := hk b (by omega)
              exact ⟨b, o, la, lc, sa, sc, ha, (World.cell?_of_block (a := ⟨b, o + j * 2, none⟩) hbk).trans h1, (World.cell?_of_block (a := ⟨b, o + j * 2 + 1, none⟩) hbk).trans h2,
                h3'.kept fun q hq => hk q (by omega), h4.kept fun q hq => hk q (by omega)⟩
          obtain ⟨b, o, la, lc, sa, sc, rfl, m0, m1, hLa, hSa⟩ := hc
          have hTw : Tabs wr := HT.out.kept (hk _ (by omega)) (hk _ (by omega))
          have hKt : NumMap wr mb nn texts (allLabs bs) := HNM.out.kept (HA.out.block (k := mb) hml HMO.out)
          have hse : ∀ x ∈ y.1, x ∈ allLabs bs ∧ ShortL x := fun x hx => by
            have hx2 : x ∈ allLabs bs := List.mem_flatMap.2 ⟨y, hym, hx⟩
            exact ⟨hx2, HSh.out x hx2⟩
          have hs2 := HA.out.grown.size
          have hnt : some mb ≠ u4.ownBlock := HA.out.ne hml HMO.out
          obtain ⟨W, hW⟩ : ∃ W, W = wr.alloc (.cells #[.slice la y.1.length lc, .slice sa y.2.length sc] 38) := ⟨_, rfl⟩
          have hWk : ∀ q, q < wr.heap.size → W.heap[q]? = wr.heap[q]? := fun q hq => by rw [hW]; exact heap_alloc_old wr _ hq
          have hWs : W.heap.size = wr.heap.size + 1 := by rw [hW]; simp
          have C := hide (appendSeries_any w.heap.size B mb nn u4 _ _ _ texts (allLabs bs) y.1 y.2 W (by rw [hW]; exact (HA.out.alloc _).bytes) (by have := HLZ.out; omega) (by omega) hB h3 (hTw.kept (hWk _ (by omega)) (hWk _ (by omega)))
            (hKt.kept (hWk mb (by omega))) hse (by omega) (by omega) hnt (hLa.kept fun q hq => hWk q (by omega)) (by omega) (hSa.kept fun q hq => hWk q (by omega)) hys.1 (by have := hys.2; omega))
          have HE := hide (seriesAll_take texts bs j y hy)
          have HW := hide hW
          clear hy hym hyl hys hk hLa hSa hTw hKt hnt hWk hWs hW hse
          go_wp2_with fail
          rw [← HW.out]
          refine C.out.mono ?_
          rintro e w5 ⟨o5, rfl, A5⟩
          have A6 : App w.heap.size wm om w5 o5 (Pl.varint texts.length ++ textsBytes texts ++ Pl.varint bs.length ++ seriesAll texts (bs.take (j + 1))) := by
            rw [HW.out] at A5
            have h := HA.out.trans A5.of_alloc
            rw [HE.out]
            simpa only [List.append_assoc] using h
          have HA6 := hide A6
          clear A5 A6 C m0 m1
          go_wp2
          go_roundw
          case rel => exact ⟨j + 1, by omega, by go_num, HA6.out⟩
          case measure => simp [intOf]; omega
        · have hje : j = bs.length := by omega
          rw [hje, List.take_of_length_le (Nat.le_refl _), ← HP.out] at HA
          clear hje
          go_wp2
          go_ret
          exact ⟨_, rfl, HA.out.bytes, HB1.out.trans ((Below.refl _ _).grown (HAm.out.trans HA.out).grown hs1 (fun k e => by simp [Value.ownBlock] at e))⟩
end Go.Proofs.YtamcclcbmenjdaaGreatDoor

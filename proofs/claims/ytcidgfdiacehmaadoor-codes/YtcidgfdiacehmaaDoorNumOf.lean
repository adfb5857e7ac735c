/- numbersOf. -/
import Derived.Test.YtcidgfdiacehmaaDoorSortTx
namespace Go.Proofs.YtcidgfdiacehmaaDoor
open Go.RowKit Go.Lib

/-- All labels, in their order. -/
def allLabs (bs : List Ser) : List Lab := bs.flatMap fun s => s.1
theorem allLabs_take (l : List Ser) (k : Nat) (x : Ser) (h : l[k]? = some x) : allLabs (l.take (k + 1)) = allLabs (l.take k) ++ x.1 := by
  obtain ⟨hk, hx⟩ := List.getElem?_eq_some_iff.1 h
  rw [List.take_succ_eq_append_getElem hk, hx, allLabs, List.flatMap_append]
  simp [allLabs]
theorem take_more {α : Type} (l : List α) (k : Nat) (x : α) (h : l[k]? = some x) : l.take (k + 1) = l.take k ++ [x] := by
  obtain ⟨hk, hx⟩ := List.getElem?_eq_some_iff.1 h
  rw [List.take_succ_eq_append_getElem hk, hx]

/-- What holds while the map fills. -/
structure Filling (w W : World) (mb : Nat) (texts : List ByteArray) (seen : List Lab) : Prop where
  map : ∃ n, n ≤ seen.length ∧ NumMap W mb n texts seen
  below : Below w.heap.size w W
theorem Filling.alloc {w W : World} {mb : Nat} {texts : List ByteArray} {seen : List Lab} (h : Filling w W mb texts seen) (o : Obj) : Filling w (W.alloc o) mb texts seen := by
  obtain ⟨n, hn, hm⟩ := h.map
  exact ⟨⟨n, hn, hm.kept (heap_alloc_old W o hm.lt)⟩, h.below.alloc h.below.size o⟩

set_option maxRecDepth 100000 in
set_option maxHeartbeats 1000000 in
theorem numbersOf_any (B tb : Nat) (v tv : Value) (bs : List Ser) (texts : List ByteArray) (w : World) (hb : BatchAt w B v bs) (hB : B ≤ w.heap.size) (hbl : bs.length ≤ 100) (hll : ∀ s ∈ bs, s.1.length ≤ 100) (hsh : ∀ x ∈ allLabs bs, ShortL x)
    (ht : TextsAt w tv tb texts) (htl : texts.length ≤ 1000000) (htb : tb < w.heap.size) :
    Calls Tryd.prog 48 #[v, tv] w fun e w' => ∃ mb n, e = .returned (.map (some mb)) ∧ w.heap.size ≤ mb ∧ NumMap w' mb n texts (allLabs bs) ∧ Below w.heap.size w w' := by
  obtain ⟨a, cap, rfl, hcap, hb2⟩ := hb
  have hcS : ∀ k y, bs[k]? = some y → ∃ b o lv sa sn sc, a = some ⟨b, o, none⟩ ∧ b < B ∧ w.cell? ⟨b, o + k * 2, none⟩ = some lv ∧ w.cell? ⟨b, o + k * 2 + 1, none⟩ = some (.slice sa sn sc) ∧ LabelsAt w B lv y.1 := by
    intro k y hy
    rcases hb2 with h | ⟨b, o, ha, hbb, hc⟩
    · rw [h] at hy; cases hy
    · obtain ⟨lv, sv, h1, h2, h3, sa, sc, rfl, _⟩ := hc k y hy
      exact ⟨b, o, lv, sa, _, sc, ha, hbb, h1, h2, h3⟩
  have hcn : ∀ (X : ByteArray) (W : World), TextsAt W tv tb texts → Calls Tryd.prog 65 #[tv, .string X] W fun e w' => e = .returned (.int .i64 (placeOf texts X)) ∧ w'.heap = W.heap ∧ Below W.heap.size W w' := by
    intro X W hT
    refine (numberOf_any tv tb texts X W hT htl).mono ?_
    rintro e w' ⟨rfl, q, rfl⟩
    exact ⟨rfl, rfl, below_drewN (Below.refl _ _) q⟩
  have C := hide hcn
  have HC := hide hcS
  have HL := hide hll
  have HSh := hide hsh
  have HTx := hide ht
  have F0 : Filling w (w.alloc (.map #[] 0)) w.heap.size texts (allLabs (bs.take 0)) := ⟨⟨0, Nat.zero_le _, by simpa [allLabs] using NumMap.made w texts⟩, (Below.refl _ _).alloc (Nat.le_refl _) _⟩
  have HF0 := hide F0
  clear hcS hb2 hll hsh ht hcn F0
  have hmm := @run_makeMap Tryd.prog
  go_enter Tryd.func48, Tryd.ntmps48
  go_wp2
  clear hmm
  go_loopw [7, 9, 10, 11, 15] (fun _ _ _ _ i wr => ∃ k : Nat, k ≤ bs.length ∧ i = .int .i64 k ∧ Filling w wr w.heap.size texts (allLabs (bs.take k))) (fun _ _ _ _ i _ => bs.length - (intOf i).toNat)
  case atStart => exact ⟨0, Nat.zero_le _, rfl, HF0.out⟩
  case round =>
    obtain ⟨k, hk, rfl, hX⟩ := hrel
    have HX := hide hX
    clear hX
    by_cases hlt : k < bs.length
    · obtain ⟨y, hy⟩ : ∃ y, bs[k]? = some y := ⟨_, List.getElem?_eq_getElem hlt⟩
      obtain ⟨b, o, lv, sa, sn, sc, rfl, hbB, hc1, hc2, hL⟩ := HC.out k y hy
      have hbw : b < w.heap.size := by omega
      have m0 : wr.cell? ⟨b, o + k * 2, none⟩ = some lv := (HX.out.below.cell (p := ⟨b, o + k * 2, none⟩) hbw).trans hc1
      have m1 : wr.cell? ⟨b, o + k * 2 + 1, none⟩ = some (.slice sa sn sc) := (HX.out.below.cell (p := ⟨b, o + k * 2 + 1, none⟩) hbw).trans hc2
      have hym := List.mem_of_getElem? hy
      have hyl := HL.out y hym
      have hsy : ∀ x ∈ y.1, ShortL x := fun x hx => HSh.out x (List.mem_flatMap.2 ⟨y, hym, hx⟩)
      obtain ⟨la, lcap, rfl, hlc, hL2⟩ := hL
      have HE := hide (allLabs_take bs k y hy)
      have HSy := hide hsy
      have HL2 := hide hL2
      have hal : (allLabs (bs.take k)).length ≤ 100 * k := by
        have h1 : ∀ l : List Ser, (∀ s ∈ l, s.1.length ≤ 100) → (allLabs l).length ≤ 100 * l.length := by
          intro l
          induction l with
          | nil => intro _; simp [allLabs]
          | cons x r ih =>
            intro hl
            have h2 := hl x (by simp)
            have h3 := ih fun s hs => hl s (by simp [hs])
            simp only [allLabs, List.flatMap_cons, List.length_append, List.length_cons] at h3 ⊢
            omega
        have h2 := h1 (bs.take k) (fun s hs => HL.out s (List.mem_of_mem_take hs))
        have h3 : (bs.take k).length ≤ k := List.length_take_le _ _
        omega
      have hws : w.heap.size ≤ wr.heap.size := HX.out.below.size
      clear hc1 hc2 hy hym hL2 hsy
      have HX1 := hide (HX.out.alloc (.cells #[.slice la y.1.length lcap, .slice sa sn sc] 46))
      go_wp2
      go_loopw [9, 10, 11, 22] (fun _ _ _ i wr => ∃ j : Nat, j ≤ y.1.length ∧ i = .int .i64 j ∧ Filling w wr w.heap.size texts (allLabs (bs.take k) ++ y.1.take j)) (fun _ _ _ i _ => y.1.length - (intOf i).toNat)
      case atStart => exact ⟨0, Nat.zero_le _, rfl, by simpa using HX1.out⟩
      case round =>
        obtain ⟨j, hj, rfl, hY⟩ := hrel
        have HY := hide hY
        clear hY HX HX1 m0 m1
        by_cases hjl : j < y.1.length
        · obtain ⟨⟨ky, vy⟩, hyj⟩ : ∃ x, y.1[j]? = some x := ⟨_, List.getElem?_eq_getElem hjl⟩
          have hc : ∃ lb lo, la = some ⟨lb, lo, none⟩ ∧ lb < B ∧ w.cell? ⟨lb, lo + j * 2, none⟩ = some (.string ky) ∧ w.cell? ⟨lb, lo + j * 2 + 1, none⟩ = some (.string vy) := by
            rcases HL2.out with h | ⟨lb, lo, ha, hlb, hcc⟩
            · rw [h] at hyj; cases hyj
            · exact ⟨lb, lo, ha, hlb, (hcc j (ky, vy) hyj).1, (hcc j (ky, vy) hyj).2⟩
          obtain ⟨lb, lo, rfl, hlb, hc1, hc2⟩ := hc
          have hlw : lb < w.heap.size := by omega
          have m0 : wr.cell? ⟨lb, lo + j * 2, none⟩ = some (.string ky) := (HY.out.below.cell (p := ⟨lb, lo + j * 2, none⟩) hlw).trans hc1
          have m1 : wr.cell? ⟨lb, lo + j * 2 + 1, none⟩ = some (.string vy) := (HY.out.below.cell (p := ⟨lb, lo + j * 2 + 1, none⟩) hlw).trans hc2
          have hshx := HSy.out (ky, vy) (List.mem_of_getElem? hyj)
          have HTk := hide (take_more y.1 j (ky, vy) hyj)
          obtain ⟨n, hn, hM⟩ := HY.out.map
          have hM1 : NumMap (wr.alloc (.cells #[.string ky, .string vy] 42)) w.heap.size n texts (allLabs (bs.take k) ++ y.1.take j) := hM.kept (heap_alloc_old wr _ hM.lt)
          obtain ⟨p1, p2, kk, hlook, hok⟩ := hM1.look_ok (ky, vy) hshx
          simp only at hlook
          have hws2 : w.heap.size ≤ wr.heap.size := HY.out.below.size
          have hnl : n ≤ 10100 := by
            rw [List.length_append] at hn
            have h3 : (y.1.take j).length ≤ j := List.length_take_le _ _
            omega
          obtain ⟨W, hW⟩ : ∃ W, W = (wr.alloc (.cells #[.string ky, .string vy] 42)).alloc (.cells #[.int .i64 p1, .int .i64 p2] 105) := ⟨_, rfl⟩
          have hWh : W.heap[w.heap.size]? = (wr.alloc (.cells #[.string ky, .string vy] 42)).heap[w.heap.size]? := by rw [hW]; exact heap_alloc_old _ _ hM1.lt
          have hM2 := hM1.kept hWh
          have hFW : Below w.heap.size w W := by rw [hW]; exact (HY.out.alloc _).below.alloc (by simp; omega) _
          have hok2 : kk = true → Filling w W w.heap.size texts (allLabs (bs.take k) ++ y.1.take (j + 1)) := fun hk1 => by
            refine ⟨⟨n, ?_, ?_⟩, hFW⟩
            · rw [HTk.out, ← List.append_assoc, List.length_append]; omega
            · rw [HTk.out, ← List.append_assoc]; exact (hok hk1).kept hWh
          have HW := hide hW
          have HM2 := hide hM2
          have HFW := hide hFW
          have HOk := hide hok2
          have HN := hide hn
          have HShx := hide hshx
          clear hc1 hc2 hyj hok hM hM1 hM2 hWh hFW hok2 hn hal hshx hW
          cases kk with
          | true =>
            go_wp2
            go_roundw
            case rel => exact ⟨j + 1, by omega, by go_num, by rw [← HW.out]; exact HOk.out rfl⟩
            case measure => simp [intOf]; omega
          | false =>
            obtain ⟨f, hf⟩ := HM2.out.store (ky, vy) HShx.out (by unfold maxLen; omega)
            simp only at hf
            have q0 : W.cell? ⟨wr.heap.size, 0, none⟩ = some (.string ky) := by
              have h := World.cell?_alloc_new wr #[.string ky, .string vy] 42 0
              rw [HW.out]
              exact (World.cell?_of_block (a := ⟨wr.heap.size, 0, none⟩) (heap_alloc_old _ _ (by simp))).trans h
            have q1 : W.cell? ⟨wr.heap.size, 1, none⟩ = some (.string vy) := by
              have h := World.cell?_alloc_new wr #[.string ky, .string vy] 42 1
              rw [HW.out]
              exact (World.cell?_of_block (a := ⟨wr.heap.size, 1, none⟩) (heap_alloc_old _ _ (by simp))).trans h
            have hTW : TextsAt W.drew tv tb texts := HTx.out.kept (HFW.out.block tb htb)
            obtain ⟨mo, hmo⟩ : ∃ mo, W.heap[w.heap.size]? = some mo := ⟨_, Array.getElem?_eq_getElem HM2.out.lt⟩
            have hne : wr.heap.size ≠ w.heap.size := by have := HY.out.map; obtain ⟨_, _, h⟩ := this; have := h.lt; omega
            have hmu : ∀ W' : World, W'.heap[w.heap.size]? = some mo → (Instr.mapUpdate 84 (.map (some w.heap.size)) (.agg #[.string ky, .string vy]) (.agg #[.int .i64 (placeOf texts ky), .int .i64 (placeOf texts vy)])).run Tryd.prog W' = .ok () (f W') :=
              fun W' h => (hf W' (h.trans hmo.symm)).1
            have hfc : ∀ (W' : World) (i : Nat), W'.heap[w.heap.size]? = some mo → wr.heap.size < W'.heap.size → (f W').cell? ⟨wr.heap.size, i, none⟩ = W'.cell? ⟨wr.heap.size, i, none⟩ :=
              fun W' i h h2 => World.cell?_of_block (a := ⟨wr.heap.size, i, none⟩) ((hf W' (h.trans hmo.symm)).2.2.block wr.heap.size h2 (fun e => hne (Option.some.inj e)))
            have hWs : wr.heap.size < W.heap.size := by rw [HW.out]; simp; omega
            have HMu := hide (fun W' (h : W'.heap[w.heap.size]? = some mo) => (hf W' (h.trans hmo.symm)).2)
            have HH : Hid (∀ W2 : World, W2.heap = W.heap → W2.cell? ⟨wr.heap.size, 0, none⟩ = some (.string ky) ∧ W2.cell? ⟨wr.heap.size, 1, none⟩ = some (.string vy) ∧ W2.heap[w.heap.size]? = some mo ∧ wr.heap.size < W2.heap.size ∧ TextsAt W2 tv tb texts) := by
              intro W2 h
              exact ⟨(World.cell?_of_block (a := ⟨wr.heap.size, 0, none⟩) (by show W2.heap[_]? = W.heap[_]?; rw [h])).trans q0, (World.cell?_of_block (a := ⟨wr.heap.size, 1, none⟩) (by show W2.heap[_]? = W.heap[_]?; rw [h])).trans q1, by rw [h]; exact hmo, by rw [h]; exact hWs, hTW.kept (by show W2.heap[_]? = W.heap[_]?; rw [h])⟩
            have Hmu := hide hmu
            have Hfc := hide hfc
            clear hf hmu hfc
            go_wp2
            rw [← HW.out]
            as_aux_lemma =>
              go_region_held3 (fun w' => w'.cell? ⟨wr.heap.size, 0, none⟩ = some (.string ky) ∧ w'.cell? ⟨wr.heap.size, 1, none⟩ = some (.string vy)) (go_keep) (first | (go_at_call 65; refine (C.out _ _ (by first | exact hT2 | exact hTW)).mono ?_; first | (revert hh2; intro hh2; rintro e w3 ⟨rfl, hh3, hb3⟩; obtain ⟨f0, f1, hm3, hs3, hT3⟩ := HH.out w3 (hh3.trans hh2); have hmu3 := Hmu.out w3 hm3; have f2 := (Hfc.out w3 0 hm3 hs3).trans f0; have f3 := (Hfc.out w3 1 hm3 hs3).trans f1) | (rintro e w2 ⟨rfl, hh2, hb2⟩; obtain ⟨e0, e1, hm2, hs2, hT2⟩ := HH.out w2 hh2)))
              all_goals
                have HB3 := hide (HFW.out.drew.trans ((hb2.mono (by show w.heap.size ≤ W.heap.size; omega)).trans (hb3.mono (by omega))))
                have HM3 := hide (HMu.out w3 hm3)
                clear hb2 hb3 hT2 hT3 e0 e1 f0 f1 f2 f3 q0 q1 hmu3
                go_wp2
                go_roundw
                case rel =>
                  obtain ⟨h1, h2⟩ := HM3.out
                  refine ⟨j + 1, by omega, by go_num, ⟨n + 1, ?_, ?_⟩, HB3.out.grown h2 HB3.out.size (fun k e => by cases e; exact Nat.le_refl _)⟩
                  · have := HN.out; rw [HTk.out, ← List.append_assoc, List.length_append (bs := [(ky, vy)])]; simp only [List.length_singleton]; omega
                  · rw [HTk.out, ← List.append_assoc]; exact h1
                case measure => simp [intOf]; omega
        · have hje : j = y.1.length := by omega
          rw [hje, List.take_of_length_le (Nat.le_refl _), ← HE.out] at HY
          clear hje
          go_wp2
          go_roundw
          case rel => exact ⟨k + 1, by omega, by go_num, HY.out⟩
          case measure => simp [intOf]; omega
    · have hke : k = bs.length := by omega
      rw [hke, List.take_of_length_le (Nat.le_refl _)] at HX
      clear hke
      go_wp2
      go_ret
      obtain ⟨n, _, hm⟩ := HX.out.map
      exact ⟨_, n, rfl, Nat.le_refl _, hm, HX.out.below⟩
end Go.Proofs.YtcidgfdiacehmaaDoor

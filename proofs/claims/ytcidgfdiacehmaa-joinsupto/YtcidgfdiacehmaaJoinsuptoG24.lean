/- 'choirlaw.Joins', for any two lists of series of bulk at most 1048576: Join answers the document's join or error, either way round; what is handed in stays, what comes out is its owner's. The second form's statement: its only condition is the row's own bound on the arguments' bulk. -/
import Derived.Test.YtcidgfdiacehmaaJoinsuptoG23
import Derived.Deep.DeepAppendRoom
import Derived.OwnWalk
import Derived.Test.YtcidgfdiacehmaaJoinsuptoG17
import Derived.Test.YtcidgfdiacehmaaJoinsuptoG8
/- batch.CopyLabels. -/
namespace Go.Proofs.Ytcidgfdiacehmaa
open Go.RowKit Go.Lib

set_option maxHeartbeats 400000 in
theorem cloned_any (s : ByteArray) (w : World) (hs : s.size ≤ 140737488355328) :
    Calls Try.prog 55 #[.string s] w fun e w' => e = .returned (.string s) ∧ Below w.heap.size w w' := by
  have C := hide (Try.stringslite_Clone s w (by omega))
  go_enter Try.func55, Try.ntmps55
  go_wp2_with fail
  refine C.out.mono ?_
  rintro e w1 ⟨rfl, hb⟩
  have HB := hide hb
  clear hb C
  go_wp2
  go_ret
  exact ⟨rfl, HB.out⟩

set_option maxRecDepth 100000 in
set_option maxHeartbeats 1000000 in
theorem copyLabels_any (W : World) (v : Value) (l : List Lab) (hv : LabelsAt W W.heap.size v l) (hl : l.length ≤ 1000000000000) (ht : ∀ x ∈ l, x.1.size ≤ 140737488355328 ∧ x.2.size ≤ 140737488355328) :
    Calls Try.prog 49 #[v] W fun e w' => ∃ v', e = .returned v' ∧ w'.ownsRow W.heap.size 60 2 v' l.length (labCells l) ∧ Below W.heap.size W w' := by
  obtain ⟨i0, hi, hz0, hz1, hz2⟩ := info_parts Try.infoLab
  obtain ⟨va, vc, rfl, -⟩ := id hv
  have HV := hide hv
  have HT := hide ht
  have hsz : W.heap.size ≤ W.heap.size := Nat.le_refl _
  clear hv ht
  go_enter Try.func49, Try.ntmps49
  go_wp2_with (first | (at_make; refine wpList_make_own _ rfl _ _ 35 rfl W.heap.size 60 i0 _ 2 Try.underlying35 hi hz0 hz1 .i64 .i64 _ l.length rfl rfl rfl (by rw [hz2]; omega) (by unfold maxLen; omega) hsz ?_; intro w2 hown2 hgrow2))
  have HO2 := hide hown2
  have HB2 : Hid (Below W.heap.size W w2) := (Below.refl _ _).grown hgrow2 (Nat.le_refl _) (fun k e => (by cases e))
  clear hown2 hgrow2
  go_wp2
  go_loopw [3, 5, 11] (fun o _ i wr => ∃ k g cap : Nat, k ≤ l.length ∧ i = .int .i64 k ∧ o = .slice (some ⟨g, 0, none⟩) k cap ∧ Hid (wr.ownsRow W.heap.size 60 2 (.slice (some ⟨g, 0, none⟩) k cap) k (labCells (l.take k))) ∧ Hid (Below W.heap.size W wr)) (fun _ _ i _ => l.length - (intOf i).toNat)
  case atStart => exact ⟨0, W.heap.size, l.length, Nat.zero_le _, rfl, rfl, HO2.out, HB2.out⟩
  case round =>
    clear HO2 HB2
    obtain ⟨k, g, cap, hk, rfl, rfl, HO, HB⟩ := hrel
    by_cases hlt : k < l.length
    · obtain ⟨x, hx⟩ : ∃ x, l[k]? = some x := ⟨_, List.getElem?_eq_getElem hlt⟩
      obtain ⟨b, o, rfl, hbB, c0, c1⟩ := HV.out.get hx
      have k0 := (HB.out.cell (p := ⟨b, o + k * 2, none⟩) hbB).trans c0
      have k1 := (HB.out.cell (p := ⟨b, o + k * 2 + 1, none⟩) hbB).trans c1
      have hxt := HT.out x (List.mem_of_getElem? hx)
      have HTk := hide (take_more l k x hx)
      have hws := HB.out.size
      have i1 : (k : Int) < (l.length : Int) := by omega
      obtain ⟨x1, x2⟩ := x
      simp only at k0 k1 hxt
      clear c0 c1 hx
      go_wp2
      have hg := World.ownsRow.lt HO.out g rfl
      have HO1 := hide (own_alloc HO.out (.cells #[.string x1, .string x2] 60))
      have s0 : (wr.alloc (.cells #[.string x1, .string x2] 60)).cell? ⟨wr.heap.size, 0, none⟩ = some (.string x1) := World.cell?_alloc_new _ _ _ 0
      have s1 : (wr.alloc (.cells #[.string x1, .string x2] 60)).cell? ⟨wr.heap.size, 1, none⟩ = some (.string x2) := World.cell?_alloc_new _ _ _ 1
      have HB1 : Hid (Below W.heap.size W (wr.alloc (.cells #[.string x1, .string x2] 60))) := HB.out.alloc hws _
      have hsb : wr.heap.size < (wr.alloc (.cells #[.string x1, .string x2] 60)).heap.size := by simp
      clear HO HB k0 k1
      generalize wr.alloc (.cells #[.string x1, .string x2] 60) = W1 at *
      generalize wr.heap.size = sb at *
      have CC : Hid (∀ (s : ByteArray) (W2 : World), s.size ≤ 140737488355328 → Below W1.heap.size W1 W2 → Calls Try.prog 55 #[.string s] W2 fun e w' => e = .returned (.string s) ∧ Below W1.heap.size W1 w') := fun s W2 hs h2 =>
        (cloned_any s W2 hs).mono fun e w' h => ⟨h.1, h2.trans (h.2.mono h2.size)⟩
      have hx1 := hxt.1
      have hx2 := hxt.2
      have hg1 := hg.1
      have hg2 := hg.2
      have hgW : g < W1.heap.size := by omega
      have hgs : g ≠ sb := by omega
      have HW1 := HB1.out.size
      clear hxt hg
      as_aux_lemma =>
        go_region_held3 (fun w' => w'.cell? ⟨sb, 0, none⟩ = some (.string x1) ∧ w'.cell? ⟨sb, 1, none⟩ = some (.string x2)) (first | go_keep | (go_split_ands; refine ⟨?_, ?_⟩ <;> (rw [hgrow.cell_far _ (by simp; have := hb3.size; omega) (by intro e; exact hgs (Option.some.inj e).symm)]; first | assumption | (simp; assumption)))) (first | (go_at_call 55; refine (CC.out _ _ (by first | exact hx1 | exact hx2) (by first | assumption | exact (Below.refl _ _).drew | exact Below.drew (by assumption))).mono ?_; rintro e w3 ⟨rfl, hb3⟩; have y0 := (hb3.cell (p := ⟨sb, 0, none⟩) hsb).trans s0; have y1 := (hb3.cell (p := ⟨sb, 1, none⟩) hsb).trans s1) | (refine step_append_lies _ (by rfl) (.tmp 15) (.tmp 23) 35 (by rfl) W.heap.size 60 i0 (.agg #[.string ByteArray.empty, .string ByteArray.empty]) 2 32 Try.underlying35 hi hz0 hz1 hz2 rfl (by decide) (.slice (some ⟨g, 0, none⟩) k cap) k (labCells (l.take k)) (by rfl) (own_alloc (own_kept HO1.out fun q e => by cases e; exact hb3.block g hgW) _) ⟨w3.heap.size, 0, none⟩ 1 1 [.string x1, .string x2] (by rfl) rfl (by exact cells_new _ _ _) (one_two rfl rfl) (by decide) (by unfold maxLen; omega) (by omega) (by simp; have := hb3.size; omega) (w3.heap.size + 1) (by simp) ?_; intro g2 cap2 w5 hown5 hgrow hat hgl5) | fail)
        all_goals
          have HO5 : Hid (w5.ownsRow W.heap.size 60 2 (.slice (some ⟨g2, 0, none⟩) (k + 1) cap2) (k + 1) (labCells (l.take (k + 1)))) := by
            rw [HTk.out, labCells_snoc]; exact hown5
          have HB5 : Hid (Below W.heap.size W w5) := ((HB1.out.trans (hb3.mono HW1)).alloc (by have := hb3.size; omega) _).grown hgrow (by simp; have := hb3.size; omega) (fun q e => by cases e; exact hg1)
          clear hown5 hgrow hat hgl5 hb3 y0 y1 s0 s1 CC HO1 HB1
          go_wp2
          go_roundw
          case rel => exact ⟨k + 1, g2, cap2, by omega, by go_num, rfl, HO5.out, HB5.out⟩
          case measure => simp [intOf]; omega
    · have hke : k = l.length := by omega
      subst hke
      have HF : Hid (wr.ownsRow W.heap.size 60 2 (.slice (some ⟨g, 0, none⟩) l.length cap) l.length (labCells l)) := by
        have h := HO.out
        rw [List.take_length] at h; exact h
      clear HO
      go_wp2
      go_ret
      exact ⟨_, rfl, HF.out, HB.out⟩
end Go.Proofs.Ytcidgfdiacehmaa

/- A series as it is compared: by its labels. -/
namespace Go.Proofs.Ytcidgfdiacehmaa
open Go.RowKit Go.Lib

def ElR (w : World) (x : Ser) (c0 c1 : Value) : Prop := LabelsAt w w.heap.size c0 x.1 ∧ SamplesAt w w.heap.size c1 x.2
def SmR (x : Ser) : Prop := x.1.length ≤ 10000000000000
theorem BatchAt.head {w : World} {v : Value} {x : Ser} {r : List Ser} (h : BatchAt w w.heap.size v (x :: r)) : ∃ b o k a0 a1, v = .slice (some ⟨b, o, none⟩) (r.length + 1) k ∧ b < w.heap.size ∧ w.cell? ⟨b, o, none⟩ = some a0 ∧ w.cell? ⟨b, o + 1, none⟩ = some a1 ∧ ElR w x a0 a1 := by
  obtain ⟨a, cap, rfl, _, h2⟩ := h
  rcases h2 with h2 | ⟨b, o, rfl, hb, hc⟩
  · cases h2
  · obtain ⟨lv, sv, c0, c1, hl, hs⟩ := hc 0 x rfl
    simp only [Nat.zero_mul, Nat.add_zero] at c0 c1
    exact ⟨b, o, cap, lv, sv, rfl, hb, c0, c1, hl, hs⟩
set_option maxRecDepth 100000 in
set_option maxHeartbeats 400000 in
theorem cmpR_any (x y : Ser) (a0 a1 d0 d1 : Value) (w0 w : World) (h1 : ElR w0 x a0 a1) (h2 : ElR w0 y d0 d1) (hk : ∀ k, k < w0.heap.size → w.heap[k]? = w0.heap[k]?) (hs : w0.heap.size ≤ w.heap.size) (h3 : SmR x) (_ : SmR y) :
    Calls Try.prog 42 #[.agg #[a0, a1], .agg #[d0, d1]] w fun e w' => e = .returned (.int .i64 (cmpS x y)) ∧ Below w.heap.size w w' := by
  obtain ⟨la1, lc1, rfl, -⟩ := id h1.1
  obtain ⟨sa1, sc1, rfl, -⟩ := id h1.2
  obtain ⟨la2, lc2, rfl, -⟩ := id h2.1
  obtain ⟨sa2, sc2, rfl, -⟩ := id h2.2
  have C : Hid (∀ W2 : World, Below w.heap.size w W2 → Calls Try.prog 40 #[.slice la1 x.1.length lc1, .slice la2 y.1.length lc2] W2 fun e w' => e = .returned (.int .i64 (cmpLabs x.1 y.1)) ∧ Below W2.heap.size W2 w') := fun W2 hW => by
    have hb : ∀ k, k < w0.heap.size → W2.heap[k]? = w0.heap[k]? := fun k hk' => (hW.block k (by omega)).trans (hk k hk')
    exact compareFunc_any w0.heap.size _ _ x.1 y.1 W2 (h1.1.kept hb) (h2.1.kept hb) (Nat.le_trans hs hW.size) h3
  clear h1 h2 hk
  go_enter Try.func42, Try.ntmps42
  go_wp2_with fail
  refine (C.out _ ?_).mono ?_
  · exact ((Below.refl _ _).alloc (Nat.le_refl _) _).alloc (by simp) _
  rintro e w2 ⟨rfl, hb2⟩
  have HB : Hid (Below w.heap.size w w2) := (((Below.refl _ _).alloc (Nat.le_refl _) _).alloc (by simp) _).trans (hb2.mono (by simp; omega))
  clear hb2 C
  go_wp2
  go_ret
  exact ⟨rfl, HB.out⟩
end Go.Proofs.Ytcidgfdiacehmaa

/- 'choirkeep.Sound', for any list of steps (200 of them are done): whatever happens, each replica has nothing but what was written somewhere; and as long as it is up, what it once had. The first form's statement and its card: no condition beside the row's own. -/
import Derived.Test.YtamcclcbmenjdaaGreatDoorSoundG27
import Derived.Deep.DeepAppendRoom
import Derived.OwnWalk
import Derived.Test.YtamcclcbmenjdaaGreatDoorSoundG24
import Derived.Test.YtamcclcbmenjdaaGreatDoorSoundG2
import Derived.Test.YtamcclcbmenjdaaGreatDoorSoundG7
/- join.joinSamples: of each time the greatest bits. -/
namespace Go.Proofs.YtamcclcbmenjdaaGreatDoor
open Go.RowKit Go.Lib

theorem RowS.cells {w0 W : World} {av : Value} {aa : List (Int × Nat)} (h : RowS w0 W av aa) (h0 : aa ≠ []) : ∃ g cap, av = .slice (some ⟨g, 0, none⟩) aa.length cap ∧ g < W.heap.size ∧ ∀ i x, aa[i]? = some x → W.cell? ⟨g, i * 2, none⟩ = some (.int .i64 x.1) ∧ W.cell? ⟨g, i * 2 + 1, none⟩ = some (.int .u64 x.2) := by
  obtain ⟨vals, h1, h2, h3⟩ := h.row
  obtain ⟨g, cap, e⟩ : ∃ g cap, av = .slice (some ⟨g, 0, none⟩) aa.length cap := by
    rcases h2.2 with ⟨_, h0'⟩ | ⟨g, cap, cur, e, _⟩
    · exact absurd (List.eq_nil_of_length_eq_zero h0') h0
    · exact ⟨g, cap, e⟩
  subst e
  refine ⟨g, cap, rfl, (World.ownsRow.lt h2 g rfl).2, fun i x hx => ?_⟩
  obtain ⟨p, hp⟩ : ∃ p, vals[i]? = some p := ⟨_, List.getElem?_eq_getElem (by rw [h1]; exact (List.getElem?_eq_some_iff.1 hx).1)⟩
  have hg := pair_get (fun x : Value × Value => x.1) (fun x => x.2) vals i p hp
  obtain ⟨e0, e1⟩ := h3 i p x hp hx
  rw [← e0, ← e1]
  exact ⟨own_cell h2 hg.1, own_cell h2 hg.2⟩
/-- The loop's state: what has been joined (j) of what has been taken (d), what is left (ms). -/
structure JS (W w : World) (hb : Nat) (jv : Value) (j d : List (Int × Nat)) (ms ls : List (List (Int × Nat))) : Prop where
  heap : HeapS W (fun k o => jv.ownBlock = some k ∧ w.heap[k]? = some o) w hb ms
  own : w.ownsRow W.heap.size 34 2 jv j.length (samCells j)
  tops : Tops d j
  perm : ls.flatten.Perm (d ++ ms.flatten)
  less : ∀ y ∈ d, ∀ z ∈ ms.flatten, cmpT y z = -1
  rests : Rests cmpT ms
  len : ms.length ≤ 1000000000
  jl : j.length ≤ d.length

set_option maxRecDepth 100000 in
set_option maxHeartbeats 1000000 in
theorem joinSamples_any (W : World) (v : Value) (ls : List (List (Int × Nat))) (hv : RowsS W v ls) (hr : ∀ l ∈ ls, l.Pairwise fun x y => cmpT x y = -1) (hn : ls.length ≤ 1000000000) (hfl : ls.flatten.length ≤ 1000000000000) :
    Calls Tryz.prog 140 #[v] W fun e w' => ∃ jv j, e = .returned jv ∧ Tops ls.flatten j ∧ w'.ownsRow W.heap.size 34 2 jv j.length (samCells j) ∧ Below W.heap.size W w' := by
  obtain ⟨i0, hi, hz0, hz1, hz2⟩ := info_parts Tryz.infoElS
  obtain ⟨va, vc, rfl, -⟩ := id hv
  have C1 := hide (restsOfS_any W _ hv (fun _ _ _ _ => trivial) hn)
  have HJ0 : Hid (∀ w1 hb, HeapS W (fun _ _ => False) w1 hb (full ls) → JS W w1 hb (.slice none 0 0) [] [] (full ls) ls) := fun w1 hb h =>
    ⟨h.move (Nat.le_refl _) (fun _ _ _ => rfl) (fun k o hk => by cases hk.1) h.below, World.ownsRow_nil _ _ _ _, Tops.nil, by rw [full_flat]; exact List.Perm.refl _, (fun y hy => (by cases hy)), full_rests hr, Nat.le_trans (full_len ls) hn, Nat.le_refl _⟩
  clear hv hr
  go_enter Tryz.func140, Tryz.ntmps140
  go_wp2_with fail
  refine C1.out.mono ?_
  rintro e w1 ⟨hb, rfl, hH⟩
  have HJ1 := hide (HJ0.out _ _ hH)
  clear hH C1 HJ0
  go_wp2_with fail
  go_loopw [4] (fun jv wr => ∃ (j d : List (Int × Nat)) (ms : List (List (Int × Nat))) (ja : Option Addr) (jc : Nat), jv = .slice ja j.length jc ∧ Hid (JS W wr hb (.slice ja j.length jc) j d ms ls)) (fun jv _ => ls.flatten.length - sliceLen jv)
  case atStart => exact ⟨[], [], full ls, none, 0, rfl, HJ1.out⟩
  case round =>
    clear HJ1
    obtain ⟨j, d, ms, ja, jc, rfl, HJ⟩ := hrel
    have CLen := hide (heapLenS_any wr HJ.out.heap)
    by_cases hms : ms = []
    · subst hms
      have HT : Hid (Tops ls.flatten j) := HJ.out.tops.perm (by have := HJ.out.perm; simp only [List.flatten_nil, List.append_nil] at this; exact this.symm)
      go_wp2_with fail
      refine CLen.out.mono ?_
      rintro e w2 ⟨rfl, rfl⟩
      have HO := hide HJ.out.own
      have HB := hide HJ.out.heap.below
      clear CLen HJ
      go_wp2
      go_ret
      exact ⟨_, j, rfl, HT.out, HO.out, HB.out⟩
    · have hpos : 0 < ms.length := List.length_pos_iff.2 hms
      have n0 : (0 : Int) < (ms.length : Int) := by omega
      have htot := HJ.out.perm.length_eq
      rw [List.length_append] at htot
      have hjl := HJ.out.jl
      have hfm : 1 ≤ ms.flatten.length := by
        obtain ⟨l, hl⟩ := List.exists_mem_of_ne_nil _ hms
        obtain ⟨z, hz⟩ := List.exists_mem_of_ne_nil _ (HJ.out.rests.some l hl)
        have := List.length_pos_of_mem (List.mem_flatten.2 ⟨l, hl, hz⟩)
        omega
      have CT := hide (takeAlikeS_any wr HJ.out.heap (fun _ _ _ _ => trivial) HJ.out.len (by omega) HJ.out.rests hms)
      go_wp2_with fail
      refine CLen.out.mono ?_
      rintro e w2 ⟨rfl, rfl⟩
      clear CLen
      go_wp2_with fail
      refine CT.out.mono ?_
      rintro e w3 ⟨av, x, aa, ns, rfl, hRow, hAl, hEnd, hH3, hsz3, hnl3⟩
      obtain ⟨g, cap, rfl, hg, hcells⟩ := hRow.cells (by simp)
      have hal : (x :: aa).length ≤ ms.flatten.length := by
        have := hAl.perm.length_eq
        rw [List.length_append] at this; omega
      have CM := hide (maxBits_any w3 g (x :: aa).length cap (x :: aa) (by simp) rfl hg hcells (by omega))
      have HAl := hide hAl
      have HEnd := hide hEnd
      have HH3 := hide hH3
      clear CT hcells hRow hAl hEnd hH3
      go_wp2_with fail
      refine CM.out.mono ?_
      rintro e w4 ⟨m, rfl, hm, hmax, hb4⟩
      have hkeepJ : ∀ k, (Value.slice ja j.length jc).ownBlock = some k → ∃ o, wr.heap[k]? = some o ∧ w4.heap[k]? = some o := fun k e => by
        have hk := (World.ownsRow.lt HJ.out.own k e).2
        have h3 := HH3.out.kp (k := k) ⟨e, Array.getElem?_eq_getElem hk⟩
        exact ⟨_, Array.getElem?_eq_getElem hk, (hb4.block k (lt_of_heapS h3)).trans h3⟩
      have HO4 : Hid (w4.ownsRow W.heap.size 34 2 (.slice ja j.length jc) j.length (samCells j)) := own_kept HJ.out.own fun k e => by
        obtain ⟨o, h1, h2⟩ := hkeepJ k e
        rw [h1, h2]
      have HK4 := hide hkeepJ
      have hH4 := HH3.out.kept hb4
      have hw4 := hH4.below.size
      have HH4 := hide hH4
      have HM := hide hm
      have HMx := hide hmax
      clear CM HH3 hH4 hkeepJ hm hmax hb4
      go_wp2_with (first | (at_builtin; refine wpList_append_lies _ (by rfl) (.tmp 10) (.tmp 14) 35 (by rfl) W.heap.size 34 i0 (.agg #[.int .i64 0, .int .u64 0]) 2 16 Tryz.underlying35 hi hz0 hz1 hz2 rfl (by decide) (.slice ja j.length jc) j.length (samCells j) (by rfl) (own_alloc HO4.out _) ⟨w4.heap.size, 0, none⟩ 1 1 [.int .i64 m.1, .int .u64 m.2] (by rfl) rfl (cells_new _ _ _) (one_two rfl rfl) (by decide) (by unfold maxLen; omega) (by omega) (by simp; omega) (w4.heap.size + 1) (by simp) ?_; intro g2 cap2 w5 hown5 hgrow hat hgl5))
      all_goals
        have HJ5 : Hid (JS W w5 hb (.slice (some ⟨g2, 0, none⟩) (j.length + 1) cap2) (j ++ [m]) (d ++ (x :: aa)) ns ls) := by
          have hkeep : ∀ k, k < w4.heap.size → (Value.slice ja j.length jc).ownBlock ≠ some k → w5.heap[k]? = w4.heap[k]? := fun k hk hne => (hgrow.block k (by simp; omega) (fun e => hne e.symm)).trans (heap_alloc_old w4 _ hk)
          have hs5 : w4.heap.size ≤ w5.heap.size := by have := hgrow.size; simp at this; omega
          have hsub : ∀ y ∈ (x :: aa) ++ ns.flatten, y ∈ ms.flatten := fun y hy => HAl.out.perm.mem_iff.2 hy
          refine ⟨HH4.out.move hs5 (fun k hk hn => hkeep k hk fun e => ?_) (fun k o hk => ⟨hk.2, ?_⟩) ((HH4.out.below.alloc hw4 _).grown hgrow (by simp; omega) fun k e => (World.ownsRow.lt HO4.out k e).1), ?_, ?_, ?_, fun y hy z hz => ?_, HAl.out.rests, hnl3, by simp; omega⟩
          · obtain ⟨o, h1, _⟩ := HK4.out k e
            exact hn o ⟨e, h1⟩
          · have e2 : g2 = k := Option.some.inj hk.1
            rcases hat with hat | hat
            · obtain ⟨o', h1, _⟩ := HK4.out g2 hat
              exact .inl ⟨o', by rw [← e2]; exact ⟨hat, h1⟩⟩
            · exact .inr (by omega)
          · have e2 : (j ++ [m]).length = j.length + 1 := by simp
            have e3 : samCells (j ++ [m]) = samCells j ++ [.int .i64 m.1, .int .u64 m.2] := by simp [samCells]
            rw [e2, e3]; exact hown5
          · exact HJ.out.tops.app HAl.out.same HM.out HMx.out fun a ha y hy => HJ.out.less y hy a (hsub a (List.mem_append_left _ ha))
          · refine HJ.out.perm.trans ?_
            rw [List.append_assoc]
            exact List.Perm.append_left _ HAl.out.perm
          · rcases List.mem_append.1 hy with hy | hy
            · exact HJ.out.less y hy z (hsub z (List.mem_append_right _ hz))
            · have h1 := HAl.out.same y hy
              have h2 := HEnd.out z hz
              have h3 := cmpT_ok.neg x y
              exact cmpT_ok.eqv (by omega) h2
        clear HJ hown5 hgrow hat hgl5 HO4 HH4 HK4 HAl HEnd HM HMx
        go_wp2
        go_roundw
        case rel => exact ⟨j ++ [m], d ++ (x :: aa), ns, some ⟨g2, 0, none⟩, cap2, by simp, by rw [List.length_append]; exact HJ5.out⟩
        case measure => show ls.flatten.length - (j.length + 1) < ls.flatten.length - j.length; omega
end Go.Proofs.YtamcclcbmenjdaaGreatDoor

/- batch.CopyLabels. -/
namespace Go.Proofs.YtamcclcbmenjdaaGreatDoor
open Go.RowKit Go.Lib

set_option maxHeartbeats 400000 in
theorem cloned_any (s : ByteArray) (w : World) (hs : s.size ≤ 140737488355328) :
    Calls Tryz.prog 103 #[.string s] w fun e w' => e = .returned (.string s) ∧ Below w.heap.size w w' := by
  have C := hide (Tryz.stringslite_Clone s w (by omega))
  go_enter Tryz.func103, Tryz.ntmps103
  go_wp2_with fail
  refine C.out.mono ?_
  rintro e w1 ⟨rfl, hb⟩
  have HB := hide hb
  clear hb C
  go_wp2
  go_ret
  exact ⟨rfl, HB.out⟩

set_option maxRecDepth 100000 in
set_option maxHeartbeats 1000000 in
theorem copyLabels_any (W : World) (v : Value) (l : List Lab) (hv : LabelsAt W W.heap.size v l) (hl : l.length ≤ 1000000000000) (ht : ∀ x ∈ l, x.1.size ≤ 140737488355328 ∧ x.2.size ≤ 140737488355328) :
    Calls Tryz.prog 97 #[v] W fun e w' => ∃ v', e = .returned v' ∧ w'.ownsRow W.heap.size 80 2 v' l.length (labCells l) ∧ Below W.heap.size W w' := by
  obtain ⟨i0, hi, hz0, hz1, hz2⟩ := info_parts Tryz.infoLab
  obtain ⟨va, vc, rfl, -⟩ := id hv
  have HV := hide hv
  have HT := hide ht
  have hsz : W.heap.size ≤ W.heap.size := Nat.le_refl _
  clear hv ht
  go_enter Tryz.func97, Tryz.ntmps97
  go_wp2_with (first | (at_make; refine wpList_make_own _ rfl _ _ 36 rfl W.heap.size 80 i0 _ 2 Tryz.underlying36 hi hz0 hz1 .i64 .i64 _ l.length rfl rfl rfl (by rw [hz2]; omega) (by unfold maxLen; omega) hsz ?_; intro w2 hown2 hgrow2))
  have HO2 := hide hown2
  have HB2 : Hid (Below W.heap.size W w2) := (Below.refl _ _).grown hgrow2 (Nat.le_refl _) (fun k e => (by cases e))
  clear hown2 hgrow2
  go_wp2
  go_loopw [3, 5, 11] (fun o _ i wr => ∃ k g cap : Nat, k ≤ l.length ∧ i = .int .i64 k ∧ o = .slice (some ⟨g, 0, none⟩) k cap ∧ Hid (wr.ownsRow W.heap.size 80 2 (.slice (some ⟨g, 0, none⟩) k cap) k (labCells (l.take k))) ∧ Hid (Below W.heap.size W wr)) (fun _ _ i _ => l.length - (intOf i).toNat)
  case atStart => exact ⟨0, W.heap.size, l.length, Nat.zero_le _, rfl, rfl, HO2.out, HB2.out⟩
  case round =>
    clear HO2 HB2
    obtain ⟨k, g, cap, hk, rfl, rfl, HO, HB⟩ := hrel
    by_cases hlt : k < l.length
    · obtain ⟨x, hx⟩ : ∃ x, l[k]? = some x := ⟨_, List.getElem?_eq_getElem hlt⟩
      obtain ⟨b, o, rfl, hbB, c0, c1⟩ := HV.out.get hx
      have k0 := (HB.out.cell (p := ⟨b, o + k * 2, none⟩) hbB).trans c0
      have k1 := (HB.out.cell (p := ⟨b, o + k * 2 + 1, none⟩) hbB).trans c1
      have hxt := HT.out x (List.mem_of_getElem? hx)
      have HTk := hide (take_more l k x hx)
      have hws := HB.out.size
      have i1 : (k : Int) < (l.length : Int) := by omega
      obtain ⟨x1, x2⟩ := x
      simp only at k0 k1 hxt
      clear c0 c1 hx
      go_wp2
      have hg := World.ownsRow.lt HO.out g rfl
      have HO1 := hide (own_alloc HO.out (.cells #[.string x1, .string x2] 80))
      have s0 : (wr.alloc (.cells #[.string x1, .string x2] 80)).cell? ⟨wr.heap.size, 0, none⟩ = some (.string x1) := World.cell?_alloc_new _ _ _ 0
      have s1 : (wr.alloc (.cells #[.string x1, .string x2] 80)).cell? ⟨wr.heap.size, 1, none⟩ = some (.string x2) := World.cell?_alloc_new _ _ _ 1
      have HB1 : Hid (Below W.heap.size W (wr.alloc (.cells #[.string x1, .string x2] 80))) := HB.out.alloc hws _
      have hsb : wr.heap.size < (wr.alloc (.cells #[.string x1, .string x2] 80)).heap.size := by simp
      clear HO HB k0 k1
      generalize wr.alloc (.cells #[.string x1, .string x2] 80) = W1 at *
      generalize wr.heap.size = sb at *
      have CC : Hid (∀ (s : ByteArray) (W2 : World), s.size ≤ 140737488355328 → Below W1.heap.size W1 W2 → Calls Tryz.prog 103 #[.string s] W2 fun e w' => e = .returned (.string s) ∧ Below W1.heap.size W1 w') := fun s W2 hs h2 =>
        (cloned_any s W2 hs).mono fun e w' h => ⟨h.1, h2.trans (h.2.mono h2.size)⟩
      have hx1 := hxt.1
      have hx2 := hxt.2
      have hg1 := hg.1
      have hg2 := hg.2
      have hgW : g < W1.heap.size := by omega
      have hgs : g ≠ sb := by omega
      have HW1 := HB1.out.size
      clear hxt hg
      as_aux_lemma =>
        go_region_held3 (fun w' => w'.cell? ⟨sb, 0, none⟩ = some (.string x1) ∧ w'.cell? ⟨sb, 1, none⟩ = some (.string x2)) (first | go_keep | (go_split_ands; refine ⟨?_, ?_⟩ <;> (rw [hgrow.cell_far _ (by simp; have := hb3.size; omega) (by intro e; exact hgs (Option.some.inj e).symm)]; first | assumption | (simp; assumption)))) (first | (go_at_call 103; refine (CC.out _ _ (by first | exact hx1 | exact hx2) (by first | assumption | exact (Below.refl _ _).drew | exact Below.drew (by assumption))).mono ?_; rintro e w3 ⟨rfl, hb3⟩; have y0 := (hb3.cell (p := ⟨sb, 0, none⟩) hsb).trans s0; have y1 := (hb3.cell (p := ⟨sb, 1, none⟩) hsb).trans s1) | (refine step_append_lies _ (by rfl) (.tmp 15) (.tmp 23) 36 (by rfl) W.heap.size 80 i0 (.agg #[.string ByteArray.empty, .string ByteArray.empty]) 2 32 Tryz.underlying36 hi hz0 hz1 hz2 rfl (by decide) (.slice (some ⟨g, 0, none⟩) k cap) k (labCells (l.take k)) (by rfl) (own_alloc (own_kept HO1.out fun q e => by cases e; exact hb3.block g hgW) _) ⟨w3.heap.size, 0, none⟩ 1 1 [.string x1, .string x2] (by rfl) rfl (by exact cells_new _ _ _) (one_two rfl rfl) (by decide) (by unfold maxLen; omega) (by omega) (by simp; have := hb3.size; omega) (w3.heap.size + 1) (by simp) ?_; intro g2 cap2 w5 hown5 hgrow hat hgl5) | fail)
        all_goals
          have HO5 : Hid (w5.ownsRow W.heap.size 80 2 (.slice (some ⟨g2, 0, none⟩) (k + 1) cap2) (k + 1) (labCells (l.take (k + 1)))) := by
            rw [HTk.out, labCells_snoc]; exact hown5
          have HB5 : Hid (Below W.heap.size W w5) := ((HB1.out.trans (hb3.mono HW1)).alloc (by have := hb3.size; omega) _).grown hgrow (by simp; have := hb3.size; omega) (fun q e => by cases e; exact hg1)
          clear hown5 hgrow hat hgl5 hb3 y0 y1 s0 s1 CC HO1 HB1
          go_wp2
          go_roundw
          case rel => exact ⟨k + 1, g2, cap2, by omega, by go_num, rfl, HO5.out, HB5.out⟩
          case measure => simp [intOf]; omega
    · have hke : k = l.length := by omega
      subst hke
      have HF : Hid (wr.ownsRow W.heap.size 80 2 (.slice (some ⟨g, 0, none⟩) l.length cap) l.length (labCells l)) := by
        have h := HO.out
        rw [List.take_length] at h; exact h
      clear HO
      go_wp2
      go_ret
      exact ⟨_, rfl, HF.out, HB.out⟩
end Go.Proofs.YtamcclcbmenjdaaGreatDoor

/- A series as it is compared: by its labels. -/
namespace Go.Proofs.YtamcclcbmenjdaaGreatDoor
open Go.RowKit Go.Lib

def ElR (w : World) (x : Ser) (c0 c1 : Value) : Prop := LabelsAt w w.heap.size c0 x.1 ∧ SamplesAt w w.heap.size c1 x.2
def SmR (x : Ser) : Prop := x.1.length ≤ 10000000000000
theorem BatchAt.head {w : World} {v : Value} {x : Ser} {r : List Ser} (h : BatchAt w w.heap.size v (x :: r)) : ∃ b o k a0 a1, v = .slice (some ⟨b, o, none⟩) (r.length + 1) k ∧ b < w.heap.size ∧ w.cell? ⟨b, o, none⟩ = some a0 ∧ w.cell? ⟨b, o + 1, none⟩ = some a1 ∧ ElR w x a0 a1 := by
  obtain ⟨a, cap, rfl, _, h2⟩ := h
  rcases h2 with h2 | ⟨b, o, rfl, hb, hc⟩
  · cases h2
  · obtain ⟨lv, sv, c0, c1, hl, hs⟩ := hc 0 x rfl
    simp only [Nat.zero_mul, Nat.add_zero] at c0 c1
    exact ⟨b, o, cap, lv, sv, rfl, hb, c0, c1, hl, hs⟩
set_option maxRecDepth 100000 in
set_option maxHeartbeats 400000 in
theorem cmpR_any (x y : Ser) (a0 a1 d0 d1 : Value) (w0 w : World) (h1 : ElR w0 x a0 a1) (h2 : ElR w0 y d0 d1) (hk : ∀ k, k < w0.heap.size → w.heap[k]? = w0.heap[k]?) (hs : w0.heap.size ≤ w.heap.size) (h3 : SmR x) (_ : SmR y) :
    Calls Tryz.prog 115 #[.agg #[a0, a1], .agg #[d0, d1]] w fun e w' => e = .returned (.int .i64 (cmpS x y)) ∧ Below w.heap.size w w' := by
  obtain ⟨la1, lc1, rfl, -⟩ := id h1.1
  obtain ⟨sa1, sc1, rfl, -⟩ := id h1.2
  obtain ⟨la2, lc2, rfl, -⟩ := id h2.1
  obtain ⟨sa2, sc2, rfl, -⟩ := id h2.2
  have C : Hid (∀ W2 : World, Below w.heap.size w W2 → Calls Tryz.prog 129 #[.slice la1 x.1.length lc1, .slice la2 y.1.length lc2] W2 fun e w' => e = .returned (.int .i64 (cmpLabs x.1 y.1)) ∧ Below W2.heap.size W2 w') := fun W2 hW => by
    have hb : ∀ k, k < w0.heap.size → W2.heap[k]? = w0.heap[k]? := fun k hk' => (hW.block k (by omega)).trans (hk k hk')
    exact compareFunc_any w0.heap.size _ _ x.1 y.1 W2 (h1.1.kept hb) (h2.1.kept hb) (Nat.le_trans hs hW.size) h3
  clear h1 h2 hk
  go_enter Tryz.func115, Tryz.ntmps115
  go_wp2_with fail
  refine (C.out _ ?_).mono ?_
  · exact ((Below.refl _ _).alloc (Nat.le_refl _) _).alloc (by simp) _
  rintro e w2 ⟨rfl, hb2⟩
  have HB : Hid (Below w.heap.size w w2) := (((Below.refl _ _).alloc (Nat.le_refl _) _).alloc (by simp) _).trans (hb2.mono (by simp; omega))
  clear hb2 C
  go_wp2
  go_ret
  exact ⟨rfl, HB.out⟩
end Go.Proofs.YtamcclcbmenjdaaGreatDoor

/- join's heap of rests (of series): its five methods. -/
namespace Go.Proofs.YtamcclcbmenjdaaGreatDoor
open Go.RowKit Go.Lib

theorem methR_push (p : Option Addr) (W : World) : (method 398 170 (.pointer p) "Push").run Tryz.prog W = .ok (230, .pointer p) W := by kernel_rfl
theorem methR_pop (p : Option Addr) (W : World) : (method 398 170 (.pointer p) "Pop").run Tryz.prog W = .ok (229, .pointer p) W := by kernel_rfl
theorem methR_len (p : Option Addr) (W : World) : (method 398 170 (.pointer p) "Len").run Tryz.prog W = .ok (116, .pointer p) W := by kernel_rfl
theorem methR_less (p : Option Addr) (W : World) : (method 398 170 (.pointer p) "Less").run Tryz.prog W = .ok (228, .pointer p) W := by kernel_rfl
theorem methR_swap (p : Option Addr) (W : World) : (method 398 170 (.pointer p) "Swap").run Tryz.prog W = .ok (231, .pointer p) W := by kernel_rfl
theorem Tryz.infoRowR : (Tryz.prog.info? 39).map (fun i => (i.zero, i.size, i.bytes)) = some (some (.slice none 0 0), 1, 24) := by kernel_rfl

/-- A heap of rests in memory: the struct, and the row of slices. -/
structure RstR (w0 : World) (K : Nat → Obj → Prop) (W : World) (hb : Nat) (lv : Value) (vs : List Value) : Prop where
  below : Below w0.heap.size w0 W
  base : w0.heap.size ≤ hb
  lt : hb < W.heap.size
  c0 : W.cell? ⟨hb, 0, none⟩ = some lv
  c1 : W.cell? ⟨hb, 1, none⟩ = some (.func (.func 115) #[] #[])
  f0 : W.frozen? ⟨hb, 0, none⟩ = false
  own : W.ownsRow w0.heap.size 39 1 lv vs.length vs
  ne : lv.ownBlock ≠ some hb
  kp : ∀ k o, K k o → W.heap[k]? = some o ∧ k ≠ hb ∧ lv.ownBlock ≠ some k
/-- The lists that the slices are. -/
structure ListsR (w0 : World) (vs : List Value) (ls : List (List Ser)) : Prop where
  len : vs.length = ls.length
  each : ∀ (i : Nat) (v : Value) (l : List Ser), vs[i]? = some v → ls[i]? = some l → BatchAt w0 w0.heap.size v l ∧ l ≠ []
theorem lt_of_heapR {W : World} {k : Nat} {o : Obj} (h : W.heap[k]? = some o) : k < W.heap.size := (Array.getElem?_eq_some_iff.1 h).1
/-- Blocks of K may change, others stay. -/
theorem RstR.move {w0 : World} {K K' : Nat → Obj → Prop} {W W' : World} {hb : Nat} {lv : Value} {vs : List Value} (h : RstR w0 K W hb lv vs) (hs : W.heap.size ≤ W'.heap.size) (hk : ∀ k, k < W.heap.size → (∀ o, ¬ K k o) → W'.heap[k]? = W.heap[k]?) (hK : ∀ k o, K' k o → W'.heap[k]? = some o ∧ ((∃ o', K k o') ∨ W.heap.size ≤ k)) (hb0 : Below w0.heap.size w0 W') : RstR w0 K' W' hb lv vs := by
  have hkh := hk hb h.lt fun o ho => (h.kp hb o ho).2.1 rfl
  refine ⟨hb0, h.base, Nat.lt_of_lt_of_le h.lt hs, (World.cell?_of_block (a := ⟨hb, 0, none⟩) hkh).trans h.c0, (World.cell?_of_block (a := ⟨hb, 1, none⟩) hkh).trans h.c1, (World.frozen?_of_block (a := ⟨hb, 0, none⟩) hkh).trans h.f0,
    own_kept h.own fun k e => hk k (World.ownsRow.lt h.own k e).2 fun o ho => (h.kp k o ho).2.2 e, h.ne, fun k o ho => ?_⟩
  obtain ⟨h1, h2⟩ := hK k o ho
  refine ⟨h1, ?_⟩
  rcases h2 with ⟨o', h2⟩ | h2
  · exact (h.kp k o' h2).2
  · exact ⟨fun e => by have := h.lt; omega, fun e => by have := (World.ownsRow.lt h.own k e).2; omega⟩
theorem RstR.kept {w0 : World} {K : Nat → Obj → Prop} {W W' : World} {hb : Nat} {lv : Value} {vs : List Value} (h : RstR w0 K W hb lv vs) (hbl : Below W.heap.size W W') : RstR w0 K W' hb lv vs := by
  have hk := hbl.block hb h.lt
  exact ⟨h.below.trans (hbl.mono h.below.size), h.base, Nat.lt_of_lt_of_le h.lt hbl.size, (World.cell?_of_block (a := ⟨hb, 0, none⟩) hk).trans h.c0, (World.cell?_of_block (a := ⟨hb, 1, none⟩) hk).trans h.c1, (World.frozen?_of_block (a := ⟨hb, 0, none⟩) hk).trans h.f0,
    own_kept h.own fun k e => hbl.block k (World.ownsRow.lt h.own k e).2, h.ne, fun k o hk => ⟨(hbl.block k (lt_of_heapR (h.kp k o hk).1)).trans (h.kp k o hk).1, (h.kp k o hk).2⟩⟩
theorem RstR.shape {w0 : World} {K : Nat → Obj → Prop} {W : World} {hb : Nat} {lv : Value} {vs : List Value} (h : RstR w0 K W hb lv vs) : ∃ a c, lv = .slice a vs.length c := own_shape h.own
theorem RstR.get {w0 : World} {K : Nat → Obj → Prop} {W : World} {hb : Nat} {lv : Value} {vs : List Value} (h : RstR w0 K W hb lv vs) {i : Nat} {v : Value} (hv : vs[i]? = some v) : ∃ g c, lv = .slice (some ⟨g, 0, none⟩) vs.length c ∧ W.cell? ⟨g, i, none⟩ = some v ∧ W.frozen? ⟨g, i, none⟩ = false ∧ w0.heap.size ≤ g ∧ g ≠ hb ∧ g < W.heap.size := by
  have hi := (List.getElem?_eq_some_iff.1 hv).1
  rcases h.own.2 with ⟨rfl, h0⟩ | ⟨g, cap, cur, rfl, hg, hh, hc, hcm, hcs, ht⟩
  · omega
  · have hown := h.own
    refine ⟨g, cap, rfl, own_cell hown hv, ?_, hg, fun e => h.ne (by rw [e]; rfl), (World.ownsRow.lt hown g rfl).2⟩
    simp [World.frozen?, hh]

set_option maxRecDepth 100000 in
set_option maxHeartbeats 400000 in
theorem lenR_any {w0 : World} {K : Nat → Obj → Prop} {hb : Nat} {lv : Value} {vs : List Value} (W : World) (h : RstR w0 K W hb lv vs) :
    Calls Tryz.prog 116 #[.pointer (some ⟨hb, 0, none⟩)] W fun e w' => e = .returned (.int .i64 vs.length) ∧ w' = W := by
  obtain ⟨a, c, rfl⟩ := h.shape
  have c0 := h.c0
  clear h
  go_enter Tryz.func116, Tryz.ntmps116
  go_wp2
  go_ret
  exact ⟨rfl, rfl⟩

set_option maxRecDepth 100000 in
set_option maxHeartbeats 1000000 in
theorem lessR_any {w0 : World} {K : Nat → Obj → Prop} {hb : Nat} {lv : Value} {vs : List Value} {ls : List (List Ser)} (W : World) (h : RstR w0 K W hb lv vs) (hl : ListsR w0 vs ls) (hsm : ∀ l ∈ ls, ∀ x ∈ l, SmR x) (i j : Nat) {l m : List Ser} {x y : Ser} {r s : List Ser} (hi : ls[i]? = some l) (hj : ls[j]? = some m) (hx : l = x :: r) (hy : m = y :: s) :
    Calls Tryz.prog 228 #[.pointer (some ⟨hb, 0, none⟩), .int .i64 i, .int .i64 j] W fun e w' => e = .returned (.bool (decide (cmpS x y < 0))) ∧ Below W.heap.size W w' := by
  have hil : i < vs.length := by rw [hl.len]; exact (List.getElem?_eq_some_iff.1 hi).1
  have hjl : j < vs.length := by rw [hl.len]; exact (List.getElem?_eq_some_iff.1 hj).1
  obtain ⟨v, hv⟩ : ∃ v, vs[i]? = some v := ⟨_, List.getElem?_eq_getElem hil⟩
  obtain ⟨u, hu⟩ : ∃ u, vs[j]? = some u := ⟨_, List.getElem?_eq_getElem hjl⟩
  obtain ⟨g, c, rfl, g1, _, hg0, hgn, hgl⟩ := h.get hv
  obtain ⟨g', c', e, g2, _, _⟩ := h.get hu
  cases e
  have hA := (hl.each i v l hv hi).1
  have hB := (hl.each j u m hu hj).1
  subst hx hy
  obtain ⟨b1, o1, k1, a0, a1, rfl, hb1, p0, p1, hE1⟩ := hA.head
  obtain ⟨b2, o2, k2, d0, d1, rfl, hb2, q0, q1, hE2⟩ := hB.head
  have c0 := h.c0
  have c1 := h.c1
  have hbl := h.below
  have hs := hbl.size
  have hlt := h.lt
  have m0 := (hbl.cell (p := ⟨b1, o1, none⟩) hb1).trans p0
  have m1 := (hbl.cell (p := ⟨b1, o1 + 1, none⟩) hb1).trans p1
  have t0 := (hbl.cell (p := ⟨b2, o2, none⟩) hb2).trans q0
  have t1 := (hbl.cell (p := ⟨b2, o2 + 1, none⟩) hb2).trans q1
  have C : Hid (∀ W2 : World, W2.heap = W.heap → Calls Tryz.prog 115 #[.agg #[a0, a1], .agg #[d0, d1]] W2 fun e w' => e = .returned (.int .i64 (cmpS x y)) ∧ Below W.heap.size W2 w') := fun W2 hW2 => by
    have hh := cmpR_any x y a0 a1 d0 d1 w0 W2 hE1 hE2 (fun k hk => by rw [hW2]; exact hbl.block k hk) (by rw [hW2]; exact hs) (hsm _ (List.mem_of_getElem? hi) x (by simp)) (hsm _ (List.mem_of_getElem? hj) y (by simp))
    rw [hW2] at hh; exact hh
  obtain ⟨⟨la1, lc1, rfl, -⟩, sa1, sc1, rfl, -⟩ := id hE1
  obtain ⟨⟨la2, lc2, rfl, -⟩, sa2, sc2, rfl, -⟩ := id hE2
  have i0 : (0 : Int) ≤ (i : Int) := by omega
  have i1 : (i : Int) < (vs.length : Int) := by omega
  have j0 : (0 : Int) ≤ (j : Int) := by omega
  have j1 : (j : Int) < (vs.length : Int) := by omega
  clear h hl hA hB hi hj hv hu hsm hbl hE1 hE2
  go_enter Tryz.func228, Tryz.ntmps228
  go_wp2
  as_aux_lemma =>
    go_region_held3 (fun w' => w'.cell? ⟨hb, 0, none⟩ = some (.slice (some ⟨g, 0, none⟩) vs.length c) ∧ w'.cell? ⟨hb, 1, none⟩ = some (.func (.func 115) #[] #[]) ∧ w'.cell? ⟨g, i, none⟩ = some (.slice (some ⟨b1, o1, none⟩) (r.length + 1) k1) ∧ w'.cell? ⟨g, j, none⟩ = some (.slice (some ⟨b2, o2, none⟩) (s.length + 1) k2) ∧ w'.cell? ⟨b1, o1, none⟩ = some (.slice la1 x.1.length lc1) ∧ w'.cell? ⟨b1, o1 + 1, none⟩ = some (.slice sa1 x.2.length sc1) ∧ w'.cell? ⟨b2, o2, none⟩ = some (.slice la2 y.1.length lc2) ∧ w'.cell? ⟨b2, o2 + 1, none⟩ = some (.slice sa2 y.2.length sc2)) (go_keep) (first | (go_at_call 115; refine (C.out _ (by exact rfl)).mono ?_; rintro e w2 ⟨rfl, hb3⟩; have y0 := (hb3.cell (p := ⟨hb, 0, none⟩) hlt).trans c0; have y1 := (hb3.cell (p := ⟨hb, 1, none⟩) hlt).trans c1; have y2 := (hb3.cell (p := ⟨g, i, none⟩) hgl).trans g1; have y3 := (hb3.cell (p := ⟨g, j, none⟩) hgl).trans g2; have y4 := (hb3.cell (p := ⟨b1, o1, none⟩) (by show b1 < W.heap.size; omega)).trans m0; have y5 := (hb3.cell (p := ⟨b1, o1 + 1, none⟩) (by show b1 < W.heap.size; omega)).trans m1; have y6 := (hb3.cell (p := ⟨b2, o2, none⟩) (by show b2 < W.heap.size; omega)).trans t0; have y7 := (hb3.cell (p := ⟨b2, o2 + 1, none⟩) (by show b2 < W.heap.size; omega)).trans t1))
    all_goals
      have HB := hide ((Below.refl W.heap.size W).drew.trans hb3)
      clear hb3 y0 y1 y2 y3 y4 y5 y6 y7
      go_wp2
      go_ret
      exact ⟨rfl, HB.out⟩

/-- A cell of the row written over. -/
theorem RstR.set {w0 : World} {K : Nat → Obj → Prop} {W : World} {hb g c : Nat} {vs : List Value} (h : RstR w0 K W hb (.slice (some ⟨g, 0, none⟩) vs.length c) vs) {i : Nat} (_ : i < vs.length) (v : Value) : RstR w0 K (W.setCell ⟨g, i, none⟩ v) hb (.slice (some ⟨g, 0, none⟩) vs.length c) (vs.set i v) := by
  have hgn : g ≠ hb := fun e => h.ne (by rw [e]; rfl)
  rcases h.own.2 with ⟨h0, _⟩ | ⟨g', cap, cur, he, hg, hh, hc, hcm, hcs, ht⟩
  · cases h0
  · cases he
    have hk : hb ≠ g := fun e => hgn e.symm
    have hkb := Below.heap_setCell W ⟨g, i, none⟩ v hb hk
    refine ⟨h.below.setCell hg _, h.base, by simpa using h.lt, (World.cell?_of_block (a := ⟨hb, 0, none⟩) hkb).trans h.c0, (World.cell?_of_block (a := ⟨hb, 1, none⟩) hkb).trans h.c1, (World.frozen?_of_block (a := ⟨hb, 0, none⟩) hkb).trans h.f0, ?_, h.ne, fun k o ho => ⟨(Below.heap_setCell W ⟨g, i, none⟩ v k (fun e => (h.kp k o ho).2.2 (by rw [e]; rfl))).trans (h.kp k o ho).1, (h.kp k o ho).2⟩⟩
    rw [List.length_set]
    refine ⟨by simp, .inr ⟨g, c, cur.setIfInBounds i v, rfl, hg, ?_, hc, hcm, by simpa using hcs, ?_⟩⟩
    · rw [setCell_eq_setRow W g i cur 39 (0, 0) v hh]
      exact setRow_heap W g cur _ 39 (0, 0) hh
    · rw [Nat.mul_one] at ht ⊢
      rw [Array.toList_setIfInBounds, List.take_set, ht]

set_option maxRecDepth 100000 in
set_option maxHeartbeats 1000000 in
theorem swapR_any {w0 : World} {K : Nat → Obj → Prop} {hb : Nat} {lv : Value} {vs : List Value} (W : World) (h : RstR w0 K W hb lv vs) (i j : Nat) {v u : Value} (hi : vs[i]? = some v) (hj : vs[j]? = some u) (hsv : ∃ a n c, v = .slice a n c) (hsu : ∃ a n c, u = .slice a n c) :
    Calls Tryz.prog 231 #[.pointer (some ⟨hb, 0, none⟩), .int .i64 i, .int .i64 j] W fun e w' => e = .returned (.tuple #[]) ∧ RstR w0 K w' hb lv ((vs.set i u).set j v) := by
  have hil := (List.getElem?_eq_some_iff.1 hi).1
  have hjl := (List.getElem?_eq_some_iff.1 hj).1
  obtain ⟨g, c, rfl, g1, gf1, hg0, hgn, hgl⟩ := h.get hi
  obtain ⟨g', c', e, g2, gf2, _⟩ := h.get hj
  cases e
  obtain ⟨a1, n1, k1, rfl⟩ := hsv
  obtain ⟨a2, n2, k2, rfl⟩ := hsu
  have c0 := h.c0
  have h2 := (h.set hil (.slice a2 n2 k2))
  have h3 : RstR w0 K ((W.setCell ⟨g, i, none⟩ (.slice a2 n2 k2)).setCell ⟨g, j, none⟩ (.slice a1 n1 k1)) hb (.slice (some ⟨g, 0, none⟩) vs.length c) ((vs.set i (.slice a2 n2 k2)).set j (.slice a1 n1 k1)) := by
    have e : (vs.set i (.slice a2 n2 k2)).length = vs.length := by simp
    have h4 := RstR.set (vs := vs.set i (.slice a2 n2 k2)) (by rw [e]; exact h2) (i := j) (by rw [e]; exact hjl) (.slice a1 n1 k1)
    rw [e] at h4; exact h4
  have hx : (W.setCell ⟨g, i, none⟩ (.slice a2 n2 k2)).cell? ⟨g, j, none⟩ = some (.slice a2 n2 k2) := by
    by_cases e : i = j
    · subst e; exact World.cell?_setCell_same _ _ _ g1
    · rw [World.cell?_setCell_other _ _ _ _ (fun y => e (congrArg Addr.off y))]; exact g2
  have H3 := hide h3
  have i0 : (0 : Int) ≤ (i : Int) := by omega
  have i1 : (i : Int) < (vs.length : Int) := by omega
  have j0 : (0 : Int) ≤ (j : Int) := by omega
  have j1 : (j : Int) < (vs.length : Int) := by omega
  have hne : ¬ hb = g := fun e => hgn e.symm
  clear h h2 h3 hi hj
  go_enter Tryz.func231, Tryz.ntmps231
  go_region
  all_goals
    go_wp2
    go_end0
    exact ⟨rfl, H3.out.kept ((Below.refl _ _).drew)⟩
end Go.Proofs.YtamcclcbmenjdaaGreatDoor

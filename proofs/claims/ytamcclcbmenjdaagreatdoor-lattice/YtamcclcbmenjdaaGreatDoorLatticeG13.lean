/- 'choirkeep.Lattice', for any three lists of raw samples: joins do not hang on order, grouping and how often; with bytes and without it is the same. The first form's statement and its card: no condition beside the row's own. -/
import Derived.Test.YtamcclcbmenjdaaGreatDoorLatticeG12
import Derived.Test.YtamcclcbmenjdaaGreatDoorLatticeG9
/- join's rests (of series): restsOf. -/
namespace Go.Proofs.YtamcclcbmenjdaaGreatDoor
open Go.RowKit Go.Lib

/-- A row of lists in memory, some of them maybe empty. -/
def RowsR (w : World) (v : Value) (ls : List (List Ser)) : Prop :=
  ∃ a cap, v = .slice a ls.length cap ∧ ∀ i l, ls[i]? = some l → ∃ b o la lc, a = some ⟨b, o, none⟩ ∧ b < w.heap.size ∧ w.cell? ⟨b, o + i, none⟩ = some (.slice la l.length lc) ∧ BatchAt w w.heap.size (.slice la l.length lc) l
theorem HeapR.zero (W : World) : HeapR W (fun _ _ => False) (W.alloc (.cells #[.slice none 0 0, .func (.func 115) #[] #[]] 197)) W.heap.size [] := by
  refine ⟨.slice none 0 0, [], [], ⟨⟨(Below.refl _ _).alloc (Nat.le_refl _) _, Nat.le_refl _, by simp, World.cell?_alloc_new _ _ _ 0, World.cell?_alloc_new _ _ _ 1, World.frozen?_alloc_new _ _ _ 0, World.ownsRow_nil _ _ _ _, (fun e => (by cases e)), (fun k o h => False.elim h)⟩, ⟨rfl, fun i v l h _ => by simp at h⟩, rfl⟩, List.Perm.refl _, fun k _ h => by simp at h⟩

set_option maxRecDepth 100000 in
set_option maxHeartbeats 1000000 in
theorem restsOfR_any {ls : List (List Ser)} (W : World) (v : Value) (hv : RowsR W v ls) (hsm : ∀ k ∈ ls, ∀ x ∈ k, SmR x) (hn : ls.length ≤ 1000000000) :
    Calls Tryz.prog 114 #[v, .func (.func 115) #[] #[]] W fun e w' => ∃ hb, e = .returned (.pointer (some ⟨hb, 0, none⟩)) ∧ HeapR W (fun _ _ => False) w' hb (full ls) := by
  obtain ⟨a, cap, rfl, hv⟩ := hv
  have HV := hide hv
  have HSm := hide hsm
  have H0 := hide (HeapR.zero W)
  clear hv hsm
  go_enter Tryz.func114, Tryz.ntmps114
  go_wp2
  go_loopw [7, 13] (fun _ iv wr => ∃ (i : Nat), i ≤ ls.length ∧ iv = .int .i64 i ∧ Hid (HeapR W (fun _ _ => False) wr W.heap.size (full (ls.take i)))) (fun _ iv _ => ls.length - (intOf iv).toNat)
  case atStart => exact ⟨0, Nat.zero_le _, rfl, H0.out⟩
  case round =>
    clear H0
    obtain ⟨i, hi, rfl, H⟩ := hrel
    by_cases hlt : i < ls.length
    · obtain ⟨l, hl⟩ : ∃ l, ls[i]? = some l := ⟨_, List.getElem?_eq_getElem hlt⟩
      obtain ⟨b, o, la, lc, rfl, hb0, c0, hA⟩ := HV.out i l hl
      have hbl := H.out.below
      have m0 := (hbl.cell (p := ⟨b, o + i, none⟩) hb0).trans c0
      have ht := take_more ls i l hl
      have C := hide (addR_any wr H.out la lc l hA (fun k hk x hx => by
        rcases List.mem_cons.1 hk with rfl | hk
        · exact HSm.out _ (List.mem_of_getElem? hl) x hx
        · exact HSm.out k (List.mem_of_mem_take (List.mem_filter.1 hk).1) x hx) (by have := full_len (ls.take i); have := List.length_take_le i ls; omega))
      have HP : Hid (∀ w', HeapR W (fun _ _ => False) w' W.heap.size (restOf l (full (ls.take i))) → HeapR W (fun _ _ => False) w' W.heap.size (full (ls.take (i + 1)))) := fun w' h => by
        rw [ht]; exact h.perm (full_snoc _ _)
      have i1 : (i : Int) < (ls.length : Int) := by omega
      clear hl hA c0 hbl ht H
      go_wp2_with fail
      refine C.out.mono ?_
      rintro e w1 ⟨rfl, h1⟩
      have H1 := hide (HP.out _ h1)
      clear h1 C HP m0
      go_wp2
      go_roundw
      case rel => exact ⟨i + 1, by omega, by go_num, H1.out⟩
      case measure => simp [intOf]; omega
    · have hi' : i = ls.length := by omega
      have HE : Hid (HeapR W (fun _ _ => False) wr W.heap.size (full ls)) := by
        have h := H.out
        rw [hi', List.take_length] at h; exact h
      have i1 : ¬ (i : Int) < (ls.length : Int) := by omega
      clear H hi'
      go_wp2
      go_ret
      exact ⟨_, rfl, HE.out⟩
end Go.Proofs.YtamcclcbmenjdaaGreatDoor

/- join.joinSeries: of series with the same labels one. -/
namespace Go.Proofs.YtamcclcbmenjdaaGreatDoor
open Go.RowKit Go.Lib

theorem Tryz.infoSams : (Tryz.prog.info? 35).map (fun i => (i.zero, i.size, i.bytes)) = some (some (.slice none 0 0), 1, 24) := by kernel_rfl

theorem LabelsAt.wider {w : World} {B B' : Nat} {v : Value} {l : List Lab} (h : LabelsAt w B v l) (hB : B ≤ B') : LabelsAt w B' v l := by
  obtain ⟨a, c, hv, hc, h2⟩ := h
  exact ⟨a, c, hv, hc, h2.imp id fun ⟨b, o, ha, hb, hcell⟩ => ⟨b, o, ha, by omega, hcell⟩⟩
theorem SamplesAt.wider {w : World} {B B' : Nat} {v : Value} {l : List (Int × Nat)} (h : SamplesAt w B v l) (hB : B ≤ B') : SamplesAt w B' v l := by
  obtain ⟨a, c, hv, hc, hr, h2⟩ := h
  exact ⟨a, c, hv, hc, hr, h2.imp id fun ⟨b, o, ha, hb, hcell⟩ => ⟨b, o, ha, by omega, hcell⟩⟩
theorem RowsS.kept {w w' : World} {v : Value} {ls : List (List (Int × Nat))} (h : RowsS w v ls) (hb : Below w.heap.size w w') : RowsS w' v ls := by
  obtain ⟨a, cap, hv, h2⟩ := h
  refine ⟨a, cap, hv, fun i l hl => ?_⟩
  obtain ⟨b, o, la, lc, ha, hbl, hc, hs⟩ := h2 i l hl
  exact ⟨b, o, la, lc, ha, Nat.lt_of_lt_of_le hbl hb.size, (hb.cell (p := ⟨b, o + i, none⟩) hbl).trans hc, (hs.below hb (Nat.le_refl _)).wider hb.size⟩
theorem batchGet {w : World} {B : Nat} {a : Option Addr} {n c : Nat} {l : List Ser} (h : BatchAt w B (.slice a n c) l) {j : Nat} {x : Ser} (hx : l[j]? = some x) :
    ∃ b o lv sv, a = some ⟨b, o, none⟩ ∧ b < B ∧ w.cell? ⟨b, o + j * 2, none⟩ = some lv ∧ w.cell? ⟨b, o + j * 2 + 1, none⟩ = some sv ∧ LabelsAt w B lv x.1 ∧ SamplesAt w B sv x.2 := by
  obtain ⟨a', c', hv, _, h2⟩ := h
  cases hv
  rcases h2 with h2 | ⟨b, o, ha, hb, hc⟩
  · rw [h2] at hx; cases hx
  · obtain ⟨lv, sv, h1, h2, h3, h4⟩ := hc j x hx
    exact ⟨b, o, lv, sv, ha, hb, h1, h2, h3, h4⟩

set_option maxRecDepth 100000 in
set_option maxHeartbeats 1000000 in
theorem joinSeries_any (W : World) (v : Value) (x : Ser) (r : List Ser) (hv : BatchAt W W.heap.size v (x :: r)) (hr : ∀ s ∈ x :: r, s.2.Pairwise fun x y => cmpT x y = -1) (hn : (x :: r).length ≤ 1000000000) (hfl : ((x :: r).map (·.2)).flatten.length ≤ 1000000000000) (hl : x.1.length ≤ 1000000000000) (ht : ∀ t ∈ x.1, t.1.size ≤ 140737488355328 ∧ t.2.size ≤ 140737488355328) :
    Calls Tryz.prog 117 #[v] W fun e w' => ∃ lv sv s, e = .returned (.agg #[lv, sv]) ∧ OneOf (x :: r) x.1 s ∧ w'.ownsRow W.heap.size 80 2 lv s.1.length (labCells s.1) ∧ w'.ownsRow W.heap.size 34 2 sv s.2.length (samCells s.2) ∧ Below W.heap.size W w' := by
  obtain ⟨i0, hi, hz0, hz1, hz2⟩ := info_parts Tryz.infoSams
  obtain ⟨va, vc, rfl, -⟩ := id hv
  have HV := hide hv
  have hsz : W.heap.size ≤ W.heap.size := Nat.le_refl _
  have hn' : r.length + 1 ≤ 1000000000 := hn
  have HR := hide hr
  have HT := hide ht
  have HFl := hide hfl
  clear hv hn hr ht hfl
  go_enter Tryz.func117, Tryz.ntmps117
  go_wp2_with (first | (at_make; refine wpList_make_own _ rfl _ _ 26 rfl (W.heap.size + 1) 35 i0 _ 1 Tryz.underlying26 hi hz0 hz1 .i64 .i64 _ (r.length + 1) rfl rfl rfl (by rw [hz2]; omega) (by unfold maxLen; omega) (by simp) ?_; intro w2 hown2 hgrow2))
  have HO2 := hide hown2
  have HB2 : Hid (Below W.heap.size W w2) := ((Below.refl _ _).alloc (Nat.le_refl _) _).grown hgrow2 (by simp) (fun k e => (by cases e))
  have HRc : Hid (w2.heap[W.heap.size]? = some (.cells #[.slice none 0 0, .slice none 0 0] 38)) := (hgrow2.block _ (by simp) (by simp)).trans (alloc_heap_new _ _)
  clear hown2 hgrow2
  go_wp2
  go_loopw [3, 5, 11] (fun ov _ i wr => ∃ (k g cap : Nat) (vs : List Value), k ≤ r.length + 1 ∧ i = .int .i64 k ∧ ov = .slice (some ⟨g, 0, none⟩) k cap ∧ Hid (vs.length = k) ∧ Hid (wr.ownsRow (W.heap.size + 1) 35 1 (.slice (some ⟨g, 0, none⟩) k cap) k vs) ∧ Hid (∀ (i : Nat) (u : Value) (s : Ser), vs[i]? = some u → (x :: r)[i]? = some s → SamplesAt W W.heap.size u s.2) ∧ Hid (Below W.heap.size W wr) ∧ Hid (wr.heap[W.heap.size]? = some (.cells #[.slice none 0 0, .slice none 0 0] 38))) (fun _ _ i _ => r.length + 1 - (intOf i).toNat)
  case atStart => exact ⟨0, W.heap.size + 1, r.length + 1, [], Nat.zero_le _, rfl, rfl, rfl, by show w2.ownsRow _ _ _ _ _ _; simpa using HO2.out, (fun i u s h _ => by simp at h), HB2.out, HRc.out⟩
  case round =>
    clear HO2 HB2 HRc
    obtain ⟨k, g, cap, vs, hk, rfl, rfl, HVl, HO, HS, HB, HRc⟩ := hrel
    have hws := HB.out.size
    have hrs := lt_of_heapS HRc.out
    have hg := World.ownsRow.lt HO.out g rfl
    by_cases hlt : k < r.length + 1
    · obtain ⟨s, hx⟩ : ∃ s, (x :: r)[k]? = some s := ⟨_, List.getElem?_eq_getElem hlt⟩
      obtain ⟨b, o, lv, sv, rfl, hbB, c0, c1, hL, hS⟩ := batchGet HV.out hx
      obtain ⟨la, lc, rfl, -⟩ := id hL
      obtain ⟨sa, sc, rfl, -⟩ := id hS
      have k0 := (HB.out.cell (p := ⟨b, o + k * 2, none⟩) hbB).trans c0
      have k1 := (HB.out.cell (p := ⟨b, o + k * 2 + 1, none⟩) hbB).trans c1
      have i1 : (k : Int) < (r.length : Int) + 1 := by omega
      have HX := hide hx
      have HSx := hide hS
      clear c0 c1 hx hL hS
      go_wp2_with (first | (at_builtin; refine wpList_append_lies _ (by rfl) (.tmp 15) (.tmp 18) 26 (by rfl) (W.heap.size + 1) 35 i0 (.slice none 0 0) 1 24 Tryz.underlying26 hi hz0 hz1 hz2 rfl (by decide) (.slice (some ⟨g, 0, none⟩) k cap) k vs (by rfl) (own_alloc (own_alloc HO.out _) _) ⟨wr.heap.size + 1, 0, none⟩ 1 1 [.slice sa s.2.length sc] (by rfl) rfl (by have := one_news (wr.alloc (.cells #[.slice la s.1.length lc, .slice sa s.2.length sc] 38)) 35 (.slice sa s.2.length sc); simpa using this) (by intro u hu; simp at hu; subst hu; rfl) (by decide) (by unfold maxLen; omega) (by omega) (by simp; omega) (wr.heap.size + 1 + 1) (by simp) ?_; intro g2 cap2 w5 hown5 hgrow hat hgl5) | fail)
      all_goals
        have HO5 := hide hown5
        have HV5 : Hid ((vs ++ [Value.slice sa s.2.length sc]).length = k + 1) := by show _ = _; rw [List.length_append, HVl.out]; rfl
        have HS5 : Hid (∀ (i : Nat) (u : Value) (t : Ser), (vs ++ [Value.slice sa s.2.length sc])[i]? = some u → (x :: r)[i]? = some t → SamplesAt W W.heap.size u t.2) := fun i u t hu ht => by
          rcases getElem?_snoc hu with ⟨_, hu⟩ | ⟨hi, rfl⟩
          · exact HS.out i u t hu ht
          · rw [hi, HVl.out, HX.out] at ht
            cases ht
            exact HSx.out
        have HB5 : Hid (Below W.heap.size W w5) := ((HB.out.alloc hws _).alloc (by simp; omega) _).grown hgrow (by simp; omega) (fun q e => by have e2 : g = q := Option.some.inj e; omega)
        have HR5 : Hid (w5.heap[W.heap.size]? = some (.cells #[.slice none 0 0, .slice none 0 0] 38)) := (hgrow.block _ (by simp; omega) (fun e => by have e2 : W.heap.size = g := Option.some.inj e; omega)).trans ((heap_alloc_old _ _ (by simp; omega)).trans ((heap_alloc_old _ _ hrs).trans HRc.out))
        clear hown5 hgrow hat hgl5 HO HS HB HRc HVl HX HSx
        (try go_wp2)
        go_roundw
        case rel => exact ⟨k + 1, g2, cap2, _, by omega, by go_num, rfl, HV5.out, HO5.out, HS5.out, HB5.out, HR5.out⟩
        case measure => simp [intOf]; omega
    · obtain rfl : k = r.length + 1 := by omega
      have i1 : ¬ ((r.length + 1 : Nat) : Int) < (r.length : Int) + 1 := by omega
      obtain ⟨b, o, lv, sv, rfl, hbB, c0, c1, hL, hS⟩ := batchGet HV.out (j := 0) (x := x) rfl
      obtain ⟨la, lc, rfl, -⟩ := id hL
      simp only [Nat.zero_mul, Nat.add_zero] at c0 c1
      have k0 := (HB.out.cell (p := ⟨b, o, none⟩) hbB).trans c0
      have hrows : RowsS wr (.slice (some ⟨g, 0, none⟩) (r.length + 1) cap) ((x :: r).map (·.2)) := by
        refine ⟨some ⟨g, 0, none⟩, cap, by simp, fun i l hl => ?_⟩
        rw [List.getElem?_map] at hl
        obtain ⟨s, hs, rfl⟩ := Option.map_eq_some_iff.1 hl
        obtain ⟨u, hu⟩ : ∃ u, vs[i]? = some u := ⟨_, List.getElem?_eq_getElem (by rw [HVl.out]; exact (List.getElem?_eq_some_iff.1 hs).1)⟩
        have hsa := HS.out i u s hu hs
        obtain ⟨sa, sc, rfl, -⟩ := id hsa
        refine ⟨g, 0, sa, sc, rfl, hg.2, by rw [Nat.zero_add]; exact own_cell HO.out hu, ?_⟩
        exact (hsa.below HB.out (Nat.le_refl _)).wider hws
      have CL := hide (copyLabels_any wr (.slice la x.1.length lc) x.1 ((hL.kept fun q hq => HB.out.block q hq).wider hws) hl HT.out)
      have HRows := hide hrows
      have HPw : Hid (∀ l ∈ (x :: r).map (·.2), l.Pairwise fun x y => cmpT x y = -1) := fun l hl => by
        obtain ⟨s, hs, rfl⟩ := List.mem_map.1 hl
        exact HR.out s hs
      have hml : ((x :: r).map (·.2)).length ≤ 1000000000 := by simp only [List.length_map, List.length_cons]; omega
      have HMl := hide hml
      clear hrows hL hS c0 c1 HS HO hml
      go_wp2_with fail
      refine CL.out.mono ?_
      rintro e w3 ⟨lv', rfl, hlo, hb3⟩
      obtain ⟨la', lc', rfl⟩ := own_shape hlo
      have CS := hide (joinSamples_any w3 _ _ (HRows.out.kept hb3) HPw.out HMl.out HFl.out)
      have HLo := hide hlo
      have HB3 := hide hb3
      have hs3 := hb3.size
      clear CL hlo hb3 HRows
      go_wp2_with fail
      refine CS.out.mono ?_
      rintro e w4 ⟨sv', jl, rfl, hT, hso, hb4⟩
      obtain ⟨sa', sc', rfl⟩ := own_shape hso
      have hb34 := HB3.out.trans (hb4.mono hs3)
      have hrc := (hb34.block _ hrs).trans HRc.out
      have r0 : w4.cell? ⟨W.heap.size, 0, none⟩ = some (.slice none 0 0) := by simp [World.cell?, hrc]
      have r1 : w4.cell? ⟨W.heap.size, 1, none⟩ = some (.slice none 0 0) := by simp [World.cell?, hrc]
      have fr0 : w4.frozen? ⟨W.heap.size, 0, none⟩ = false := by simp [World.frozen?, hrc]
      have fr1 : w4.frozen? ⟨W.heap.size, 1, none⟩ = false := by simp [World.frozen?, hrc]
      have HF : Hid (∀ u v, OneOf (x :: r) x.1 (x.1, jl) ∧ ((w4.setCell ⟨W.heap.size, 0, none⟩ u).setCell ⟨W.heap.size, 1, none⟩ v).ownsRow W.heap.size 80 2 (.slice la' x.1.length lc') x.1.length (labCells x.1) ∧ ((w4.setCell ⟨W.heap.size, 0, none⟩ u).setCell ⟨W.heap.size, 1, none⟩ v).ownsRow W.heap.size 34 2 (.slice sa' jl.length sc') jl.length (samCells jl) ∧ Below W.heap.size W ((w4.setCell ⟨W.heap.size, 0, none⟩ u).setCell ⟨W.heap.size, 1, none⟩ v)) := fun u v => by
        have hk : ∀ q, q ≠ W.heap.size → ((w4.setCell ⟨W.heap.size, 0, none⟩ u).setCell ⟨W.heap.size, 1, none⟩ v).heap[q]? = w4.heap[q]? := fun q hq => (Below.heap_setCell _ _ _ q hq).trans (Below.heap_setCell _ _ _ q hq)
        refine ⟨⟨rfl, hT⟩, own_mono (own_kept HLo.out fun q e => ?_) hws, own_mono (own_kept hso fun q e => ?_) (by omega), ?_⟩
        · have h1 := World.ownsRow.lt HLo.out q e
          exact (hk q (by omega)).trans (hb4.block q h1.2)
        · have h1 := World.ownsRow.lt hso q e
          exact hk q (by omega)
        · exact ((HB.out.trans (hb34.mono hws)).setCell (p := ⟨W.heap.size, 0, none⟩) (Nat.le_refl _) _).setCell (p := ⟨W.heap.size, 1, none⟩) (Nat.le_refl _) _
      clear CS hso hb4 hb34 hrc hT HLo HB3 HB HRc
      go_wp2
      (try simp only [Exit.inBlock, Exit.then])
      refine bodyPost_ret (v := .agg #[.slice la' x.1.length lc', .slice sa' jl.length sc']) (by rw [results_cell1S rfl]; go_simp) rfl ?_
      have hf := HF.out (.slice la' x.1.length lc') (.slice sa' jl.length sc')
      first | exact ⟨_, _, (x.1, jl), rfl, hf.1, hf.2.1, hf.2.2.1, hf.2.2.2⟩ | exact ⟨_, _, x.1, jl, rfl, hf.1, hf.2.1, hf.2.2.1, hf.2.2.2⟩
end Go.Proofs.YtamcclcbmenjdaaGreatDoor

/- join.joinBatches. -/
namespace Go.Proofs.YtamcclcbmenjdaaGreatDoor
open Go.RowKit Go.Lib

theorem RowR.batchAt {w0 W : World} {av : Value} {aa : List Ser} (h : RowR w0 W av aa) (hb : Below w0.heap.size w0 W) : BatchAt W W.heap.size av aa := by
  obtain ⟨vals, h1, h2, h3⟩ := h.row
  have hlt := fun k e => (World.ownsRow.lt h2 k e).2
  rcases h2.2 with ⟨rfl, h0⟩ | ⟨g, cap, cur, rfl, hg, hh, hc, _⟩
  · exact ⟨none, 0, by rw [h0], by omega, .inl (List.eq_nil_of_length_eq_zero h0)⟩
  · refine ⟨_, cap, rfl, hc, .inr ⟨g, 0, rfl, hlt g rfl, fun i x hx => ?_⟩⟩
    obtain ⟨p, hp⟩ : ∃ p, vals[i]? = some p := ⟨_, List.getElem?_eq_getElem (by rw [h1]; exact (List.getElem?_eq_some_iff.1 hx).1)⟩
    have := pair_get (fun x : Value × Value => x.1) (fun x => x.2) vals i p hp
    obtain ⟨e0, e1⟩ := h3 i p x hp hx
    rw [Nat.zero_add]
    exact ⟨p.1, p.2, own_cell h2 this.1, own_cell h2 this.2, (e0.kept fun q hq => hb.block q hq).wider hb.size, (e1.below hb (Nat.le_refl _)).wider hb.size⟩
/-- What is asked of each series. -/
def SerFit (s : Ser) : Prop := s.1.length ≤ 1000000000000 ∧ (∀ t ∈ s.1, t.1.size ≤ 140737488355328 ∧ t.2.size ≤ 140737488355328) ∧ s.2.Pairwise fun x y => cmpT x y = -1
def samN (l : List Ser) : Nat := (l.map (·.2)).flatten.length
theorem samN_perm {l m : List Ser} (h : l.Perm m) : samN l = samN m := (h.map _).flatten.length_eq
theorem samN_app (l m : List Ser) : samN (l ++ m) = samN l + samN m := by simp [samN]
/-- The loop's state. -/
structure JB (W w : World) (hb : Nat) (S0 : Nat → Prop) (jv : Value) (j d : List Ser) (ms ls : List (List Ser)) : Prop where
  heap : HeapR W (fun k o => (S0 k ∨ jv.ownBlock = some k) ∧ w.heap[k]? = some o) w hb ms
  row : ∃ vals : List (Value × Value), vals.length = j.length ∧ w.ownsRow W.heap.size 38 2 jv j.length (serCells vals) ∧ ∀ (i : Nat) (p : Value × Value) (x : Ser), vals[i]? = some p → j[i]? = some x → w.ownsRow W.heap.size 80 2 p.1 x.1.length (labCells x.1) ∧ w.ownsRow W.heap.size 34 2 p.2 x.2.length (samCells x.2) ∧ (∀ k, p.1.ownBlock = some k → S0 k) ∧ (∀ k, p.2.ownBlock = some k → S0 k)
  apart : ∀ k, S0 k → jv.ownBlock ≠ some k
  lt : ∀ k, S0 k → k < w.heap.size
  tops : STops d j
  perm : ls.flatten.Perm (d ++ ms.flatten)
  less : ∀ y ∈ d, ∀ z ∈ ms.flatten, cmpS y z = -1
  rests : Rests cmpS ms
  len : ms.length ≤ 1000000000
  jl : j.length ≤ d.length

set_option maxRecDepth 100000 in
set_option maxHeartbeats 2000000 in
theorem joinBatches_any (W : World) (v : Value) (ls : List (List Ser)) (hv : RowsR W v ls) (hr : ∀ l ∈ ls, l.Pairwise fun x y => cmpS x y = -1) (hall : ∀ s ∈ ls.flatten, SerFit s) (hn : ls.length ≤ 1000000000) (hfl : ls.flatten.length ≤ 1000000000) (hsa : samN ls.flatten ≤ 1000000000000) :
    Calls Tryz.prog 83 #[v] W fun e w' => ∃ jv j, e = .returned jv ∧ STops ls.flatten j ∧ Fresh w' W.heap.size jv j ∧ Below W.heap.size W w' := by
  obtain ⟨i0, hi, hz0, hz1, hz2⟩ := info_parts Tryz.infoElR
  obtain ⟨va, vc, rfl, -⟩ := id hv
  have hsm0 : ∀ k ∈ ls, ∀ x ∈ k, SmR x := fun k hk x hx => by
    have := (hall x (List.mem_flatten.2 ⟨k, hk, hx⟩)).1
    show x.1.length ≤ _; omega
  have C1 := hide (restsOfR_any W _ hv hsm0 hn)
  have HAll := hide hall
  have HSa := hide hsa
  have HJ0 : Hid (∀ w1 hb, HeapR W (fun _ _ => False) w1 hb (full ls) → JB W w1 hb (fun _ => False) (.slice none 0 0) [] [] (full ls) ls) := fun w1 hb h =>
    ⟨h.move (Nat.le_refl _) (fun _ _ _ => rfl) (fun k o hk => by rcases hk.1 with h | h <;> cases h) h.below, ⟨[], rfl, World.ownsRow_nil _ _ _ _, fun i p x h _ => by simp at h⟩, fun k h => h.elim, fun k h => h.elim, STops.nil, by rw [full_flat]; exact List.Perm.refl _, (fun y hy => (by cases hy)), full_rests hr, Nat.le_trans (full_len ls) hn, Nat.le_refl _⟩
  clear hv hr hall hsa hsm0
  go_enter Tryz.func83, Tryz.ntmps83
  go_wp2_with fail
  refine C1.out.mono ?_
  rintro e w1 ⟨hb, rfl, hH⟩
  have HJ1 := hide (HJ0.out _ _ hH)
  clear hH C1 HJ0
  go_wp2_with fail
  go_loopw [4] (fun jv wr => ∃ (S0 : Nat → Prop) (j d : List Ser) (ms : List (List Ser)) (ja : Option Addr) (jc : Nat), jv = .slice ja j.length jc ∧ Hid (JB W wr hb S0 (.slice ja j.length jc) j d ms ls)) (fun jv _ => ls.flatten.length - sliceLen jv)
  case atStart => exact ⟨_, [], [], full ls, none, 0, rfl, HJ1.out⟩
  case round =>
    clear HJ1
    obtain ⟨S0, j, d, ms, ja, jc, rfl, HJ⟩ := hrel
    have CLen := hide (heapLenR_any wr HJ.out.heap)
    by_cases hms : ms = []
    · subst hms
      have HT : Hid (STops ls.flatten j) := HJ.out.tops.perm (by have := HJ.out.perm; simp only [List.flatten_nil, List.append_nil] at this; exact this.symm)
      have HF : Hid (Fresh wr W.heap.size (.slice ja j.length jc) j) := by
        obtain ⟨vals, h1, h2, h3⟩ := HJ.out.row
        exact ⟨vals, h2, h1, fun i p x hp hx => ⟨(h3 i p x hp hx).1, (h3 i p x hp hx).2.1⟩⟩
      have HB := hide HJ.out.heap.below
      clear HJ
      go_wp2_with fail
      refine CLen.out.mono ?_
      rintro e w2 ⟨rfl, rfl⟩
      clear CLen
      go_wp2
      go_ret
      exact ⟨_, j, rfl, HT.out, HF.out, HB.out⟩
    · have hpos : 0 < ms.length := List.length_pos_iff.2 hms
      have n0 : (0 : Int) < (ms.length : Int) := by omega
      have htot := HJ.out.perm.length_eq
      rw [List.length_append] at htot
      have hjl := HJ.out.jl
      have hin : ∀ s ∈ ms.flatten, SerFit s := fun s hs => HAll.out s (HJ.out.perm.mem_iff.2 (List.mem_append_right _ hs))
      have hfm : 1 ≤ ms.flatten.length := by
        obtain ⟨l, hl⟩ := List.exists_mem_of_ne_nil _ hms
        obtain ⟨z, hz⟩ := List.exists_mem_of_ne_nil _ (HJ.out.rests.some l hl)
        have := List.length_pos_of_mem (List.mem_flatten.2 ⟨l, hl, hz⟩)
        omega
      have CT := hide (takeAlikeR_any wr HJ.out.heap (fun k hk x hx => by
        have := (hin x (List.mem_flatten.2 ⟨k, hk, hx⟩)).1
        show x.1.length ≤ _; omega) HJ.out.len (by omega) HJ.out.rests hms)
      have HIn := hide hin
      clear hin
      go_wp2_with fail
      refine CLen.out.mono ?_
      rintro e w2 ⟨rfl, rfl⟩
      clear CLen
      go_wp2_with fail
      refine CT.out.mono ?_
      rintro e w3 ⟨av, x, aa, ns, rfl, hRow, hAl, hEnd, hH3, hsz3, hnl3⟩
      have hal : (x :: aa).length + ns.flatten.length = ms.flatten.length := by
        have := hAl.perm.length_eq
        rw [List.length_append] at this; omega
      have hsub : ∀ s ∈ x :: aa, SerFit s := fun s hs => HIn.out s (hAl.perm.mem_iff.2 (List.mem_append_left _ hs))
      have hsn : samN (x :: aa) ≤ 1000000000000 := by
        have h1 := samN_perm HJ.out.perm
        have h2 := samN_perm hAl.perm
        rw [samN_app] at h1 h2
        have := HSa.out
        omega
      have hfx := hsub x (List.mem_cons_self ..)
      have hba := hRow.batchAt hH3.below
      obtain ⟨aa', ac, rfl, -⟩ := id hba
      have CS := hide (joinSeries_any w3 _ x aa hba (fun s hs => (hsub s hs).2.2) (by omega) hsn hfx.1 hfx.2.1)
      have HAl := hide hAl
      have HEnd := hide hEnd
      have HH3 := hide hH3
      clear CT hRow hAl hEnd hH3 hsub hba hfx hsn
      go_wp2_with fail
      refine CS.out.mono ?_
      rintro e w4 ⟨lv, sv, s, rfl, hOne, hlo, hso, hb4⟩
      obtain ⟨la, lc, rfl⟩ := own_shape hlo
      obtain ⟨sa, sc, rfl⟩ := own_shape hso
      obtain ⟨vals, hvl, hvo, hve⟩ := HJ.out.row
      have hlt : ∀ k, (S0 k ∨ (Value.slice ja j.length jc).ownBlock = some k) → k < wr.heap.size := fun k hk => by
        rcases hk with hk | hk
        · exact HJ.out.lt k hk
        · exact (World.ownsRow.lt hvo k hk).2
      have hw3 : ∀ k, (S0 k ∨ (Value.slice ja j.length jc).ownBlock = some k) → w3.heap[k]? = wr.heap[k]? := fun k hk => by
        have h1 := Array.getElem?_eq_getElem (hlt k hk)
        rw [h1]; exact HH3.out.kp (k := k) ⟨hk, h1⟩
      have hs4 := hb4.size
      have hw4 : ∀ k, (S0 k ∨ (Value.slice ja j.length jc).ownBlock = some k) → w4.heap[k]? = wr.heap[k]? := fun k hk => (hb4.block k (by have := hlt k hk; omega)).trans (hw3 k hk)
      have HO4 : Hid (w4.ownsRow W.heap.size 38 2 (.slice ja j.length jc) j.length (serCells vals)) := own_kept hvo fun k e => hw4 k (.inr e)
      have hW3 := HH3.out.below.size
      have HB4 : Hid (Below W.heap.size W w4) := HH3.out.below.trans (hb4.mono hW3)
      have hW4 := HB4.out.size
      have HOne := hide hOne
      have HLo := hide hlo
      have HSo := hide hso
      have HVl := hide hvl
      have HVe := hide hve
      have HLt := hide hlt
      have HW4 := hide hw4
      have HB34 := hide hb4
      have HOwnLt : Hid (∀ k, (Value.slice ja j.length jc).ownBlock = some k → k < wr.heap.size ∧ W.heap.size ≤ k) := fun k e => ⟨(World.ownsRow.lt hvo k e).2, (World.ownsRow.lt hvo k e).1⟩
      clear CS hOne hlo hso hvl hvo hve hlt hw3 hw4 hb4
      go_wp2_with (first | (at_builtin; refine wpList_append_lies _ (by rfl) (.tmp 10) (.tmp 14) 39 (by rfl) W.heap.size 38 i0 (.agg #[.slice none 0 0, .slice none 0 0]) 2 48 Tryz.underlying39 hi hz0 hz1 hz2 rfl (by decide) (.slice ja j.length jc) j.length (serCells vals) (by rfl) (own_alloc HO4.out _) ⟨w4.heap.size, 0, none⟩ 1 1 [.slice la s.1.length lc, .slice sa s.2.length sc] (by rfl) rfl (cells_new _ _ _) (one_two rfl rfl) (by decide) (by unfold maxLen; omega) (by omega) (by simp; omega) (w4.heap.size + 1) (by simp) ?_; intro g2 cap2 w5 hown5 hgrow hat hgl5) | fail)
      all_goals
        have HJ5 : Hid (JB W w5 hb (fun k => S0 k ∨ (Value.slice la s.1.length lc).ownBlock = some k ∨ (Value.slice sa s.2.length sc).ownBlock = some k) (.slice (some ⟨g2, 0, none⟩) (j.length + 1) cap2) (j ++ [s]) (d ++ (x :: aa)) ns ls) := by
          have hkeep : ∀ k, k < w4.heap.size → (Value.slice ja j.length jc).ownBlock ≠ some k → w5.heap[k]? = w4.heap[k]? := fun k hk hne => (hgrow.block k (by simp; omega) (fun e => hne e.symm)).trans (heap_alloc_old w4 _ hk)
          have hs5 : w4.heap.size ≤ w5.heap.size := by have := hgrow.size; simp at this; omega
          have hlL := fun k e => World.ownsRow.lt HLo.out k e
          have hlS := fun k e => World.ownsRow.lt HSo.out k e
          have hnew : ∀ k, w3.heap.size ≤ k → (Value.slice ja j.length jc).ownBlock ≠ some k := fun k hk e => by have := (HOwnLt.out k e).1; omega
          have hkS : ∀ k, S0 k → w5.heap[k]? = wr.heap[k]? := fun k hk => (hkeep k (by have := HLt.out k (.inl hk); omega) (HJ.out.apart k hk)).trans (HW4.out k (.inl hk))
          have hmem : ∀ y ∈ (x :: aa) ++ ns.flatten, y ∈ ms.flatten := fun y hy => HAl.out.perm.mem_iff.2 hy
          refine ⟨HH3.out.move (by omega) (fun k hk hn => ?_) (fun k o hk => ⟨hk.2, ?_⟩) ((HB4.out.alloc hW4 _).grown hgrow (by simp; omega) fun k e => (HOwnLt.out k e).2), ⟨vals ++ [(.slice la s.1.length lc, .slice sa s.2.length sc)], by simp [HVl.out], ?_, fun i p u hp hu => ?_⟩, fun k hk e => ?_, fun k hk => ?_, ?_, ?_, fun y hy z hz => ?_, HAl.out.rests, hnl3, by simp; omega⟩
          · have hne : (Value.slice ja j.length jc).ownBlock ≠ some k := fun e => by
              have h1 := Array.getElem?_eq_getElem (HLt.out k (.inr e))
              exact hn _ ⟨.inr e, h1⟩
            exact (hkeep k (by omega) hne).trans (HB34.out.block k hk)
          · rcases hk.1 with (h | h | h) | h
            · exact .inl ⟨_, .inl h, Array.getElem?_eq_getElem (HLt.out k (.inl h))⟩
            · exact .inr (hlL k h).1
            · exact .inr (hlS k h).1
            · have e2 : g2 = k := Option.some.inj h
              rcases hat with hat | hat
              · exact .inl ⟨_, .inr (by rw [← e2]; exact hat), Array.getElem?_eq_getElem (HLt.out k (.inr (by rw [← e2]; exact hat)))⟩
              · exact .inr (by omega)
          · rw [serCells_snoc]
            have el : (j ++ [s]).length = j.length + 1 := by simp
            rw [el]; exact hown5
          · rcases getElem?_snoc hp with ⟨hi', hp⟩ | ⟨hi', rfl⟩
            · rw [List.getElem?_append_left (by rw [← HVl.out]; exact hi')] at hu
              obtain ⟨h1, h2, h3, h4⟩ := HVe.out i p u hp hu
              exact ⟨own_kept h1 fun k e => hkS k (h3 k e), own_kept h2 fun k e => hkS k (h4 k e), fun k e => .inl (h3 k e), fun k e => .inl (h4 k e)⟩
            · rw [hi', HVl.out, List.getElem?_append_right (Nat.le_refl _), Nat.sub_self] at hu
              cases hu
              exact ⟨own_mono (own_kept HLo.out fun k e => hkeep k (hlL k e).2 (hnew k (hlL k e).1)) hW3, own_mono (own_kept HSo.out fun k e => hkeep k (hlS k e).2 (hnew k (hlS k e).1)) hW3, fun k e => .inr (.inl e), fun k e => .inr (.inr e)⟩
          · have e2 : g2 = k := Option.some.inj e
            rcases hat with hat | hat
            · rcases hk with h | h | h
              · exact HJ.out.apart k h (by rw [← e2]; exact hat)
              · exact hnew k (hlL k h).1 (by rw [← e2]; exact hat)
              · exact hnew k (hlS k h).1 (by rw [← e2]; exact hat)
            · rcases hk with h | h | h
              · have := HLt.out k (.inl h); omega
              · have := (hlL k h).2; omega
              · have := (hlS k h).2; omega
          · rcases hk with h | h | h
            · have := HLt.out k (.inl h); omega
            · have := (hlL k h).2; omega
            · have := (hlS k h).2; omega
          · exact HJ.out.tops.app HAl.out.same (by simp) HOne.out fun a ha y hy => HJ.out.less y hy a (hmem a (List.mem_append_left _ ha))
          · refine HJ.out.perm.trans ?_
            rw [List.append_assoc]
            exact List.Perm.append_left _ HAl.out.perm
          · rcases List.mem_append.1 hy with hy | hy
            · exact HJ.out.less y hy z (hmem z (List.mem_append_right _ hz))
            · have h1 := HAl.out.same y hy
              have h2 := HEnd.out z hz
              have h3 := cmpS_ok.neg x y
              exact cmpS_ok.eqv (by omega) h2
        clear HJ hown5 hgrow hat hgl5 HO4 HH3 HAl HEnd HLo HSo HVl HVe HLt HW4 HB34 HOwnLt HOne HB4
        (try go_wp2)
        go_roundw
        case rel => exact ⟨_, j ++ [s], d ++ (x :: aa), ns, some ⟨g2, 0, none⟩, cap2, by simp, by rw [List.length_append]; exact HJ5.out⟩
        case measure => show ls.flatten.length - (j.length + 1) < ls.flatten.length - j.length; omega
end Go.Proofs.YtamcclcbmenjdaaGreatDoor

/- 'choirlaw.Joins', for any two lists of series of bulk at most 1048576: Join answers the document's join or error, either way round; what is handed in stays, what comes out is its owner's. The second form's statement: its only condition is the row's own bound on the arguments' bulk. -/
import Derived.Test.YtcidgfdiacehmaaJoinsuptoG28
import Derived.Test.YtcidgfdiacehmaaJoinsuptoG24
/- join's rests (of series): restsOf. -/
namespace Go.Proofs.Ytcidgfdiacehmaa
open Go.RowKit Go.Lib

/-- A row of lists in memory, some of them maybe empty. -/
def RowsR (w : World) (v : Value) (ls : List (List Ser)) : Prop :=
  ∃ a cap, v = .slice a ls.length cap ∧ ∀ i l, ls[i]? = some l → ∃ b o la lc, a = some ⟨b, o, none⟩ ∧ b < w.heap.size ∧ w.cell? ⟨b, o + i, none⟩ = some (.slice la l.length lc) ∧ BatchAt w w.heap.size (.slice la l.length lc) l
theorem HeapR.zero (W : World) : HeapR W (fun _ _ => False) (W.alloc (.cells #[.slice none 0 0, .func (.func 42) #[] #[]] 89)) W.heap.size [] := by
  refine ⟨.slice none 0 0, [], [], ⟨⟨(Below.refl _ _).alloc (Nat.le_refl _) _, Nat.le_refl _, by simp, World.cell?_alloc_new _ _ _ 0, World.cell?_alloc_new _ _ _ 1, World.frozen?_alloc_new _ _ _ 0, World.ownsRow_nil _ _ _ _, (fun e => (by cases e)), (fun k o h => False.elim h)⟩, ⟨rfl, fun i v l h _ => by simp at h⟩, rfl⟩, List.Perm.refl _, fun k _ h => by simp at h⟩

set_option maxRecDepth 100000 in
set_option maxHeartbeats 1000000 in
theorem restsOfR_any {ls : List (List Ser)} (W : World) (v : Value) (hv : RowsR W v ls) (hsm : ∀ k ∈ ls, ∀ x ∈ k, SmR x) (hn : ls.length ≤ 1000000000) :
    Calls Try.prog 41 #[v, .func (.func 42) #[] #[]] W fun e w' => ∃ hb, e = .returned (.pointer (some ⟨hb, 0, none⟩)) ∧ HeapR W (fun _ _ => False) w' hb (full ls) := by
  obtain ⟨a, cap, rfl, hv⟩ := hv
  have HV := hide hv
  have HSm := hide hsm
  have H0 := hide (HeapR.zero W)
  clear hv hsm
  go_enter Try.func41, Try.ntmps41
  go_wp2
  go_loopw [7, 13] (fun _ iv wr => ∃ (i : Nat), i ≤ ls.length ∧ iv = .int .i64 i ∧ Hid (HeapR W (fun _ _ => False) wr W.heap.size (full (ls.take i)))) (fun _ iv _ => ls.length - (intOf iv).toNat)
  case atStart => exact ⟨0, Nat.zero_le _, rfl, H0.out⟩
  case round =>
    clear H0
    obtain ⟨i, hi, rfl, H⟩ := hrel
    by_cases hlt : i < ls.length
    · obtain ⟨l, hl⟩ : ∃ l, ls[i]? = some l := ⟨_, List.getElem?_eq_getElem hlt⟩
      obtain ⟨b, o, la, lc, rfl, hb0, c0, hA⟩ := HV.out i l hl
      have hbl := H.out.below
      have m0 := (hbl.cell (p := ⟨b, o + i, none⟩) hb0).trans c0
      have ht := take_more ls i l hl
      have C := hide (addR_any wr H.out la lc l hA (fun k hk x hx => by
        rcases List.mem_cons.1 hk with rfl | hk
        · exact HSm.out _ (List.mem_of_getElem? hl) x hx
        · exact HSm.out k (List.mem_of_mem_take (List.mem_filter.1 hk).1) x hx) (by have := full_len (ls.take i); have := List.length_take_le i ls; omega))
      have HP : Hid (∀ w', HeapR W (fun _ _ => False) w' W.heap.size (restOf l (full (ls.take i))) → HeapR W (fun _ _ => False) w' W.heap.size (full (ls.take (i + 1)))) := fun w' h => by
        rw [ht]; exact h.perm (full_snoc _ _)
      have i1 : (i : Int) < (ls.length : Int) := by omega
      clear hl hA c0 hbl ht H
      go_wp2_with fail
      refine C.out.mono ?_
      rintro e w1 ⟨rfl, h1⟩
      have H1 := hide (HP.out _ h1)
      clear h1 C HP m0
      go_wp2
      go_roundw
      case rel => exact ⟨i + 1, by omega, by go_num, H1.out⟩
      case measure => simp [intOf]; omega
    · have hi' : i = ls.length := by omega
      have HE : Hid (HeapR W (fun _ _ => False) wr W.heap.size (full ls)) := by
        have h := H.out
        rw [hi', List.take_length] at h; exact h
      have i1 : ¬ (i : Int) < (ls.length : Int) := by omega
      clear H hi'
      go_wp2
      go_ret
      exact ⟨_, rfl, HE.out⟩
end Go.Proofs.Ytcidgfdiacehmaa

/- join.joinSeries: of series with the same labels one. -/
namespace Go.Proofs.Ytcidgfdiacehmaa
open Go.RowKit Go.Lib

theorem Try.infoSams : (Try.prog.info? 34).map (fun i => (i.zero, i.size, i.bytes)) = some (some (.slice none 0 0), 1, 24) := by kernel_rfl

theorem LabelsAt.wider {w : World} {B B' : Nat} {v : Value} {l : List Lab} (h : LabelsAt w B v l) (hB : B ≤ B') : LabelsAt w B' v l := by
  obtain ⟨a, c, hv, hc, h2⟩ := h
  exact ⟨a, c, hv, hc, h2.imp id fun ⟨b, o, ha, hb, hcell⟩ => ⟨b, o, ha, by omega, hcell⟩⟩
theorem SamplesAt.wider {w : World} {B B' : Nat} {v : Value} {l : List (Int × Nat)} (h : SamplesAt w B v l) (hB : B ≤ B') : SamplesAt w B' v l := by
  obtain ⟨a, c, hv, hc, hr, h2⟩ := h
  exact ⟨a, c, hv, hc, hr, h2.imp id fun ⟨b, o, ha, hb, hcell⟩ => ⟨b, o, ha, by omega, hcell⟩⟩
theorem RowsS.kept {w w' : World} {v : Value} {ls : List (List (Int × Nat))} (h : RowsS w v ls) (hb : Below w.heap.size w w') : RowsS w' v ls := by
  obtain ⟨a, cap, hv, h2⟩ := h
  refine ⟨a, cap, hv, fun i l hl => ?_⟩
  obtain ⟨b, o, la, lc, ha, hbl, hc, hs⟩ := h2 i l hl
  exact ⟨b, o, la, lc, ha, Nat.lt_of_lt_of_le hbl hb.size, (hb.cell (p := ⟨b, o + i, none⟩) hbl).trans hc, (hs.below hb (Nat.le_refl _)).wider hb.size⟩
theorem batchGet {w : World} {B : Nat} {a : Option Addr} {n c : Nat} {l : List Ser} (h : BatchAt w B (.slice a n c) l) {j : Nat} {x : Ser} (hx : l[j]? = some x) :
    ∃ b o lv sv, a = some ⟨b, o, none⟩ ∧ b < B ∧ w.cell? ⟨b, o + j * 2, none⟩ = some lv ∧ w.cell? ⟨b, o + j * 2 + 1, none⟩ = some sv ∧ LabelsAt w B lv x.1 ∧ SamplesAt w B sv x.2 := by
  obtain ⟨a', c', hv, _, h2⟩ := h
  cases hv
  rcases h2 with h2 | ⟨b, o, ha, hb, hc⟩
  · rw [h2] at hx; cases hx
  · obtain ⟨lv, sv, h1, h2, h3, h4⟩ := hc j x hx
    exact ⟨b, o, lv, sv, ha, hb, h1, h2, h3, h4⟩

set_option maxRecDepth 100000 in
set_option maxHeartbeats 1000000 in
theorem joinSeries_any (W : World) (v : Value) (x : Ser) (r : List Ser) (hv : BatchAt W W.heap.size v (x :: r)) (hr : ∀ s ∈ x :: r, s.2.Pairwise fun x y => cmpT x y = -1) (hn : (x :: r).length ≤ 1000000000) (hfl : ((x :: r).map (·.2)).flatten.length ≤ 1000000000000) (hl : x.1.length ≤ 1000000000000) (ht : ∀ t ∈ x.1, t.1.size ≤ 140737488355328 ∧ t.2.size ≤ 140737488355328) :
    Calls Try.prog 44 #[v] W fun e w' => ∃ lv sv s, e = .returned (.agg #[lv, sv]) ∧ OneOf (x :: r) x.1 s ∧ w'.ownsRow W.heap.size 60 2 lv s.1.length (labCells s.1) ∧ w'.ownsRow W.heap.size 33 2 sv s.2.length (samCells s.2) ∧ Below W.heap.size W w' := by
  obtain ⟨i0, hi, hz0, hz1, hz2⟩ := info_parts Try.infoSams
  obtain ⟨va, vc, rfl, -⟩ := id hv
  have HV := hide hv
  have hsz : W.heap.size ≤ W.heap.size := Nat.le_refl _
  have hn' : r.length + 1 ≤ 1000000000 := hn
  have HR := hide hr
  have HT := hide ht
  have HFl := hide hfl
  clear hv hn hr ht hfl
  go_enter Try.func44, Try.ntmps44
  go_wp2_with (first | (at_make; refine wpList_make_own _ rfl _ _ 26 rfl (W.heap.size + 1) 34 i0 _ 1 Try.underlying26 hi hz0 hz1 .i64 .i64 _ (r.length + 1) rfl rfl rfl (by rw [hz2]; omega) (by unfold maxLen; omega) (by simp) ?_; intro w2 hown2 hgrow2))
  have HO2 := hide hown2
  have HB2 : Hid (Below W.heap.size W w2) := ((Below.refl _ _).alloc (Nat.le_refl _) _).grown hgrow2 (by simp) (fun k e => (by cases e))
  have HRc : Hid (w2.heap[W.heap.size]? = some (.cells #[.slice none 0 0, .slice none 0 0] 37)) := (hgrow2.block _ (by simp) (by simp)).trans (alloc_heap_new _ _)
  clear hown2 hgrow2
  go_wp2
  go_loopw [3, 5, 11] (fun ov _ i wr => ∃ (k g cap : Nat) (vs : List Value), k ≤ r.length + 1 ∧ i = .int .i64 k ∧ ov = .slice (some ⟨g, 0, none⟩) k cap ∧ Hid (vs.length = k) ∧ Hid (wr.ownsRow (W.heap.size + 1) 34 1 (.slice (some ⟨g, 0, none⟩) k cap) k vs) ∧ Hid (∀ (i : Nat) (u : Value) (s : Ser), vs[i]? = some u → (x :: r)[i]? = some s → SamplesAt W W.heap.size u s.2) ∧ Hid (Below W.heap.size W wr) ∧ Hid (wr.heap[W.heap.size]? = some (.cells #[.slice none 0 0, .slice none 0 0] 37))) (fun _ _ i _ => r.length + 1 - (intOf i).toNat)
  case atStart => exact ⟨0, W.heap.size + 1, r.length + 1, [], Nat.zero_le _, rfl, rfl, rfl, by show w2.ownsRow _ _ _ _ _ _; simpa using HO2.out, (fun i u s h _ => by simp at h), HB2.out, HRc.out⟩
  case round =>
    clear HO2 HB2 HRc
    obtain ⟨k, g, cap, vs, hk, rfl, rfl, HVl, HO, HS, HB, HRc⟩ := hrel
    have hws := HB.out.size
    have hrs := lt_of_heapS HRc.out
    have hg := World.ownsRow.lt HO.out g rfl
    by_cases hlt : k < r.length + 1
    · obtain ⟨s, hx⟩ : ∃ s, (x :: r)[k]? = some s := ⟨_, List.getElem?_eq_getElem hlt⟩
      obtain ⟨b, o, lv, sv, rfl, hbB, c0, c1, hL, hS⟩ := batchGet HV.out hx
      obtain ⟨la, lc, rfl, -⟩ := id hL
      obtain ⟨sa, sc, rfl, -⟩ := id hS
      have k0 := (HB.out.cell (p := ⟨b, o + k * 2, none⟩) hbB).trans c0
      have k1 := (HB.out.cell (p := ⟨b, o + k * 2 + 1, none⟩) hbB).trans c1
      have i1 : (k : Int) < (r.length : Int) + 1 := by omega
      have HX := hide hx
      have HSx := hide hS
      clear c0 c1 hx hL hS
      go_wp2_with (first | (at_builtin; refine wpList_append_lies _ (by rfl) (.tmp 15) (.tmp 18) 26 (by rfl) (W.heap.size + 1) 34 i0 (.slice none 0 0) 1 24 Try.underlying26 hi hz0 hz1 hz2 rfl (by decide) (.slice (some ⟨g, 0, none⟩) k cap) k vs (by rfl) (own_alloc (own_alloc HO.out _) _) ⟨wr.heap.size + 1, 0, none⟩ 1 1 [.slice sa s.2.length sc] (by rfl) rfl (by have := one_news (wr.alloc (.cells #[.slice la s.1.length lc, .slice sa s.2.length sc] 37)) 34 (.slice sa s.2.length sc); simpa using this) (by intro u hu; simp at hu; subst hu; rfl) (by decide) (by unfold maxLen; omega) (by omega) (by simp; omega) (wr.heap.size + 1 + 1) (by simp) ?_; intro g2 cap2 w5 hown5 hgrow hat hgl5) | fail)
      all_goals
        have HO5 := hide hown5
        have HV5 : Hid ((vs ++ [Value.slice sa s.2.length sc]).length = k + 1) := by show _ = _; rw [List.length_append, HVl.out]; rfl
        have HS5 : Hid (∀ (i : Nat) (u : Value) (t : Ser), (vs ++ [Value.slice sa s.2.length sc])[i]? = some u → (x :: r)[i]? = some t → SamplesAt W W.heap.size u t.2) := fun i u t hu ht => by
          rcases getElem?_snoc hu with ⟨_, hu⟩ | ⟨hi, rfl⟩
          · exact HS.out i u t hu ht
          · rw [hi, HVl.out, HX.out] at ht
            cases ht
            exact HSx.out
        have HB5 : Hid (Below W.heap.size W w5) := ((HB.out.alloc hws _).alloc (by simp; omega) _).grown hgrow (by simp; omega) (fun q e => by have e2 : g = q := Option.some.inj e; omega)
        have HR5 : Hid (w5.heap[W.heap.size]? = some (.cells #[.slice none 0 0, .slice none 0 0] 37)) := (hgrow.block _ (by simp; omega) (fun e => by have e2 : W.heap.size = g := Option.some.inj e; omega)).trans ((heap_alloc_old _ _ (by simp; omega)).trans ((heap_alloc_old _ _ hrs).trans HRc.out))
        clear hown5 hgrow hat hgl5 HO HS HB HRc HVl HX HSx
        (try go_wp2)
        go_roundw
        case rel => exact ⟨k + 1, g2, cap2, _, by omega, by go_num, rfl, HV5.out, HO5.out, HS5.out, HB5.out, HR5.out⟩
        case measure => simp [intOf]; omega
    · obtain rfl : k = r.length + 1 := by omega
      have i1 : ¬ ((r.length + 1 : Nat) : Int) < (r.length : Int) + 1 := by omega
      obtain ⟨b, o, lv, sv, rfl, hbB, c0, c1, hL, hS⟩ := batchGet HV.out (j := 0) (x := x) rfl
      obtain ⟨la, lc, rfl, -⟩ := id hL
      simp only [Nat.zero_mul, Nat.add_zero] at c0 c1
      have k0 := (HB.out.cell (p := ⟨b, o, none⟩) hbB).trans c0
      have hrows : RowsS wr (.slice (some ⟨g, 0, none⟩) (r.length + 1) cap) ((x :: r).map (·.2)) := by
        refine ⟨some ⟨g, 0, none⟩, cap, by simp, fun i l hl => ?_⟩
        rw [List.getElem?_map] at hl
        obtain ⟨s, hs, rfl⟩ := Option.map_eq_some_iff.1 hl
        obtain ⟨u, hu⟩ : ∃ u, vs[i]? = some u := ⟨_, List.getElem?_eq_getElem (by rw [HVl.out]; exact (List.getElem?_eq_some_iff.1 hs).1)⟩
        have hsa := HS.out i u s hu hs
        obtain ⟨sa, sc, rfl, -⟩ := id hsa
        refine ⟨g, 0, sa, sc, rfl, hg.2, by rw [Nat.zero_add]; exact own_cell HO.out hu, ?_⟩
        exact (hsa.below HB.out (Nat.le_refl _)).wider hws
      have CL := hide (copyLabels_any wr (.slice la x.1.length lc) x.1 ((hL.kept fun q hq => HB.out.block q hq).wider hws) hl HT.out)
      have HRows := hide hrows
      have HPw : Hid (∀ l ∈ (x :: r).map (·.2), l.Pairwise fun x y => cmpT x y = -1) := fun l hl => by
        obtain ⟨s, hs, rfl⟩ := List.mem_map.1 hl
        exact HR.out s hs
      have hml : ((x :: r).map (·.2)).length ≤ 1000000000 := by simp only [List.length_map, List.length_cons]; omega
      have HMl := hide hml
      clear hrows hL hS c0 c1 HS HO hml
      go_wp2_with fail
      refine CL.out.mono ?_
      rintro e w3 ⟨lv', rfl, hlo, hb3⟩
      obtain ⟨la', lc', rfl⟩ := own_shape hlo
      have CS := hide (joinSamples_any w3 _ _ (HRows.out.kept hb3) HPw.out HMl.out HFl.out)
      have HLo := hide hlo
      have HB3 := hide hb3
      have hs3 := hb3.size
      clear CL hlo hb3 HRows
      go_wp2_with fail
      refine CS.out.mono ?_
      rintro e w4 ⟨sv', jl, rfl, hT, hso, hb4⟩
      obtain ⟨sa', sc', rfl⟩ := own_shape hso
      have hb34 := HB3.out.trans (hb4.mono hs3)
      have hrc := (hb34.block _ hrs).trans HRc.out
      have r0 : w4.cell? ⟨W.heap.size, 0, none⟩ = some (.slice none 0 0) := by simp [World.cell?, hrc]
      have r1 : w4.cell? ⟨W.heap.size, 1, none⟩ = some (.slice none 0 0) := by simp [World.cell?, hrc]
      have fr0 : w4.frozen? ⟨W.heap.size, 0, none⟩ = false := by simp [World.frozen?, hrc]
      have fr1 : w4.frozen? ⟨W.heap.size, 1, none⟩ = false := by simp [World.frozen?, hrc]
      have HF : Hid (∀ u v, OneOf (x :: r) x.1 (x.1, jl) ∧ ((w4.setCell ⟨W.heap.size, 0, none⟩ u).setCell ⟨W.heap.size, 1, none⟩ v).ownsRow W.heap.size 60 2 (.slice la' x.1.length lc') x.1.length (labCells x.1) ∧ ((w4.setCell ⟨W.heap.size, 0, none⟩ u).setCell ⟨W.heap.size, 1, none⟩ v).ownsRow W.heap.size 33 2 (.slice sa' jl.length sc') jl.length (samCells jl) ∧ Below W.heap.size W ((w4.setCell ⟨W.heap.size, 0, none⟩ u).setCell ⟨W.heap.size, 1, none⟩ v)) := fun u v => by
        have hk : ∀ q, q ≠ W.heap.size → ((w4.setCell ⟨W.heap.size, 0, none⟩ u).setCell ⟨W.heap.size, 1, none⟩ v).heap[q]? = w4.heap[q]? := fun q hq => (Below.heap_setCell _ _ _ q hq).trans (Below.heap_setCell _ _ _ q hq)
        refine ⟨⟨rfl, hT⟩, own_mono (own_kept HLo.out fun q e => ?_) hws, own_mono (own_kept hso fun q e => ?_) (by omega), ?_⟩
        · have h1 := World.ownsRow.lt HLo.out q e
          exact (hk q (by omega)).trans (hb4.block q h1.2)
        · have h1 := World.ownsRow.lt hso q e
          exact hk q (by omega)
        · exact ((HB.out.trans (hb34.mono hws)).setCell (p := ⟨W.heap.size, 0, none⟩) (Nat.le_refl _) _).setCell (p := ⟨W.heap.size, 1, none⟩) (Nat.le_refl _) _
      clear CS hso hb4 hb34 hrc hT HLo HB3 HB HRc
      go_wp2
      (try simp only [Exit.inBlock, Exit.then])
      refine bodyPost_ret (v := .agg #[.slice la' x.1.length lc', .slice sa' jl.length sc']) (by rw [results_cell1S rfl]; go_simp) rfl ?_
      have hf := HF.out (.slice la' x.1.length lc') (.slice sa' jl.length sc')
      first | exact ⟨_, _, (x.1, jl), rfl, hf.1, hf.2.1, hf.2.2.1, hf.2.2.2⟩ | exact ⟨_, _, x.1, jl, rfl, hf.1, hf.2.1, hf.2.2.1, hf.2.2.2⟩
end Go.Proofs.Ytcidgfdiacehmaa

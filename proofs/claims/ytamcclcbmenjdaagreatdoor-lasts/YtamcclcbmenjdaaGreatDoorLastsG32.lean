/- 'choirkeep.Lasts', for any two lists of steps (100 of each are done) and any numbers: what a replica had when it was synced or compacted it has behind any crash and restart, whatever came between; and a second restart changes nothing. The first form's statement and its card: no condition beside the row's own. -/
import Derived.Test.YtamcclcbmenjdaaGreatDoorLastsG31
import Derived.Test.YtamcclcbmenjdaaGreatDoorLastsG7
import Derived.Test.YtamcclcbmenjdaaGreatDoorLastsG24
/- join.joinBatches. -/
namespace Go.Proofs.YtamcclcbmenjdaaGreatDoor
open Go.RowKit Go.Lib

theorem RowR.batchAt {w0 W : World} {av : Value} {aa : List Ser} (h : RowR w0 W av aa) (hb : Below w0.heap.size w0 W) : BatchAt W W.heap.size av aa := by
  obtain ⟨vals, h1, h2, h3⟩ := h.row
  have hlt := fun k e => (World.ownsRow.lt h2 k e).2
  rcases h2.2 with ⟨rfl, h0⟩ | ⟨g, cap, cur, rfl, hg, hh, hc, _⟩
  · exact ⟨none, 0, by rw [h0], by omega, .inl (List.eq_nil_of_length_eq_zero h0)⟩
  · refine ⟨_, cap, rfl, hc, .inr ⟨g, 0, rfl, hlt g rfl, fun i x hx => ?_⟩⟩
    obtain ⟨p, hp⟩ : ∃ p, vals[i]? = some p := ⟨_, List.getElem?_eq_getElem (by rw [h1]; exact (List.getElem?_eq_some_iff.1 hx).1)⟩
    have := pair_get (fun x : Value × Value => x.1) (fun x => x.2) vals i p hp
    obtain ⟨e0, e1⟩ := h3 i p x hp hx
    rw [Nat.zero_add]
    exact ⟨p.1, p.2, own_cell h2 this.1, own_cell h2 this.2, (e0.kept fun q hq => hb.block q hq).wider hb.size, (e1.below hb (Nat.le_refl _)).wider hb.size⟩
/-- What is asked of each series. -/
def SerFit (s : Ser) : Prop := s.1.length ≤ 1000000000000 ∧ (∀ t ∈ s.1, t.1.size ≤ 140737488355328 ∧ t.2.size ≤ 140737488355328) ∧ s.2.Pairwise fun x y => cmpT x y = -1
def samN (l : List Ser) : Nat := (l.map (·.2)).flatten.length
theorem samN_perm {l m : List Ser} (h : l.Perm m) : samN l = samN m := (h.map _).flatten.length_eq
theorem samN_app (l m : List Ser) : samN (l ++ m) = samN l + samN m := by simp [samN]
/-- The loop's state. -/
structure JB (W w : World) (hb : Nat) (S0 : Nat → Prop) (jv : Value) (j d : List Ser) (ms ls : List (List Ser)) : Prop where
  heap : HeapR W (fun k o => (S0 k ∨ jv.ownBlock = some k) ∧ w.heap[k]? = some o) w hb ms
  row : ∃ vals : List (Value × Value), vals.length = j.length ∧ w.ownsRow W.heap.size 38 2 jv j.length (serCells vals) ∧ (∀ (i : Nat) (p : Value × Value) (x : Ser), vals[i]? = some p → j[i]? = some x → w.ownsRow W.heap.size 80 2 p.1 x.1.length (labCells x.1) ∧ w.ownsRow W.heap.size 34 2 p.2 x.2.length (samCells x.2) ∧ (∀ k, p.1.ownBlock = some k → S0 k) ∧ (∀ k, p.2.ownBlock = some k → S0 k)) ∧ Apt vals
  apart : ∀ k, S0 k → jv.ownBlock ≠ some k
  lt : ∀ k, S0 k → k < w.heap.size
  tops : STops d j
  perm : ls.flatten.Perm (d ++ ms.flatten)
  less : ∀ y ∈ d, ∀ z ∈ ms.flatten, cmpS y z = -1
  rests : Rests cmpS ms
  len : ms.length ≤ 1000000000
  jl : j.length ≤ d.length

set_option maxRecDepth 100000 in
set_option maxHeartbeats 2000000 in
theorem joinBatches_any (W : World) (v : Value) (ls : List (List Ser)) (hv : RowsR W v ls) (hr : ∀ l ∈ ls, l.Pairwise fun x y => cmpS x y = -1) (hall : ∀ s ∈ ls.flatten, SerFit s) (hn : ls.length ≤ 1000000000) (hfl : ls.flatten.length ≤ 1000000000) (hsa : samN ls.flatten ≤ 1000000000000) :
    Calls Tryz.prog 83 #[v] W fun e w' => ∃ jv j, e = .returned jv ∧ STops ls.flatten j ∧ FreshD w' W.heap.size jv j ∧ Below W.heap.size W w' := by
  obtain ⟨i0, hi, hz0, hz1, hz2⟩ := info_parts Tryz.infoElR
  obtain ⟨va, vc, rfl, -⟩ := id hv
  have hsm0 : ∀ k ∈ ls, ∀ x ∈ k, SmR x := fun k hk x hx => by
    have := (hall x (List.mem_flatten.2 ⟨k, hk, hx⟩)).1
    show x.1.length ≤ _; omega
  have C1 := hide (restsOfR_any W _ hv hsm0 hn)
  have HAll := hide hall
  have HSa := hide hsa
  have HJ0 : Hid (∀ w1 hb, HeapR W (fun _ _ => False) w1 hb (full ls) → JB W w1 hb (fun _ => False) (.slice none 0 0) [] [] (full ls) ls) := fun w1 hb h =>
    ⟨h.move (Nat.le_refl _) (fun _ _ _ => rfl) (fun k o hk => by rcases hk.1 with h | h <;> cases h) h.below, ⟨[], rfl, World.ownsRow_nil _ _ _ _, (fun i p x h _ => by simp at h), List.Pairwise.nil⟩, fun k h => h.elim, fun k h => h.elim, STops.nil, by rw [full_flat]; exact List.Perm.refl _, (fun y hy => (by cases hy)), full_rests hr, Nat.le_trans (full_len ls) hn, Nat.le_refl _⟩
  clear hv hr hall hsa hsm0
  go_enter Tryz.func83, Tryz.ntmps83
  go_wp2_with fail
  refine C1.out.mono ?_
  rintro e w1 ⟨hb, rfl, hH⟩
  have HJ1 := hide (HJ0.out _ _ hH)
  clear hH C1 HJ0
  go_wp2_with fail
  go_loopw [4] (fun jv wr => ∃ (S0 : Nat → Prop) (j d : List Ser) (ms : List (List Ser)) (ja : Option Addr) (jc : Nat), jv = .slice ja j.length jc ∧ Hid (JB W wr hb S0 (.slice ja j.length jc) j d ms ls)) (fun jv _ => ls.flatten.length - sliceLen jv)
  case atStart => exact ⟨_, [], [], full ls, none, 0, rfl, HJ1.out⟩
  case round =>
    clear HJ1
    obtain ⟨S0, j, d, ms, ja, jc, rfl, HJ⟩ := hrel
    have CLen := hide (heapLenR_any wr HJ.out.heap)
    by_cases hms : ms = []
    · subst hms
      have HT : Hid (STops ls.flatten j) := HJ.out.tops.perm (by have := HJ.out.perm; simp only [List.flatten_nil, List.append_nil] at this; exact this.symm)
      have HF : Hid (FreshD wr W.heap.size (.slice ja j.length jc) j) := by
        obtain ⟨vals, h1, h2, h3, h4⟩ := HJ.out.row
        exact ⟨vals, h2, ⟨h1, fun i p x hp hx => ⟨(h3 i p x hp hx).1, (h3 i p x hp hx).2.1⟩⟩, h4⟩
      have HB := hide HJ.out.heap.below
      clear HJ
      go_wp2_with fail
      refine CLen.out.mono ?_
      rintro e w2 ⟨rfl, rfl⟩
      clear CLen
      go_wp2
      go_ret
      exact ⟨_, j, rfl, HT.out, HF.out, HB.out⟩
    · have hpos : 0 < ms.length := List.length_pos_iff.2 hms
      have n0 : (0 : Int) < (ms.length : Int) := by omega
      have htot := HJ.out.perm.length_eq
      rw [List.length_append] at htot
      have hjl := HJ.out.jl
      have hin : ∀ s ∈ ms.flatten, SerFit s := fun s hs => HAll.out s (HJ.out.perm.mem_iff.2 (List.mem_append_right _ hs))
      have hfm : 1 ≤ ms.flatten.length := by
        obtain ⟨l, hl⟩ := List.exists_mem_of_ne_nil _ hms
        obtain ⟨z, hz⟩ := List.exists_mem_of_ne_nil _ (HJ.out.rests.some l hl)
        have := List.length_pos_of_mem (List.mem_flatten.2 ⟨l, hl, hz⟩)
        omega
      have CT := hide (takeAlikeR_any wr HJ.out.heap (fun k hk x hx => by
        have := (hin x (List.mem_flatten.2 ⟨k, hk, hx⟩)).1
        show x.1.length ≤ _; omega) HJ.out.len (by omega) HJ.out.rests hms)
      have HIn := hide hin
      clear hin
      go_wp2_with fail
      refine CLen.out.mono ?_
      rintro e w2 ⟨rfl, rfl⟩
      clear CLen
      go_wp2_with fail
      refine CT.out.mono ?_
      rintro e w3 ⟨av, x, aa, ns, rfl, hRow, hAl, hEnd, hH3, hsz3, hnl3⟩
      have hal : (x :: aa).length + ns.flatten.length = ms.flatten.length := by
        have := hAl.perm.length_eq
        rw [List.length_append] at this; omega
      have hsub : ∀ s ∈ x :: aa, SerFit s := fun s hs => HIn.out s (hAl.perm.mem_iff.2 (List.mem_append_left _ hs))
      have hsn : samN (x :: aa) ≤ 1000000000000 := by
        have h1 := samN_perm HJ.out.perm
        have h2 := samN_perm hAl.perm
        rw [samN_app] at h1 h2
        have := HSa.out
        omega
      have hfx := hsub x (List.mem_cons_self ..)
      have hba := hRow.batchAt hH3.below
      obtain ⟨aa', ac, rfl, -⟩ := id hba
      have CS := hide (joinSeries_any w3 _ x aa hba (fun s hs => (hsub s hs).2.2) (by omega) hsn hfx.1 hfx.2.1)
      have HAl := hide hAl
      have HEnd := hide hEnd
      have HH3 := hide hH3
      clear CT hRow hAl hEnd hH3 hsub hba hfx hsn
      go_wp2_with fail
      refine CS.out.mono ?_
      rintro e w4 ⟨lv, sv, s, rfl, hOne, hlo, hso, hb4⟩
      obtain ⟨la, lc, rfl⟩ := own_shape hlo
      obtain ⟨sa, sc, rfl⟩ := own_shape hso
      obtain ⟨vals, hvl, hvo, hve, hva⟩ := HJ.out.row
      have hlt : ∀ k, (S0 k ∨ (Value.slice ja j.length jc).ownBlock = some k) → k < wr.heap.size := fun k hk => by
        rcases hk with hk | hk
        · exact HJ.out.lt k hk
        · exact (World.ownsRow.lt hvo k hk).2
      have hw3 : ∀ k, (S0 k ∨ (Value.slice ja j.length jc).ownBlock = some k) → w3.heap[k]? = wr.heap[k]? := fun k hk => by
        have h1 := Array.getElem?_eq_getElem (hlt k hk)
        rw [h1]; exact HH3.out.kp (k := k) ⟨hk, h1⟩
      have hs4 := hb4.size
      have hw4 : ∀ k, (S0 k ∨ (Value.slice ja j.length jc).ownBlock = some k) → w4.heap[k]? = wr.heap[k]? := fun k hk => (hb4.block k (by have := hlt k hk; omega)).trans (hw3 k hk)
      have HO4 : Hid (w4.ownsRow W.heap.size 38 2 (.slice ja j.length jc) j.length (serCells vals)) := own_kept hvo fun k e => hw4 k (.inr e)
      have hW3 := HH3.out.below.size
      have HB4 : Hid (Below W.heap.size W w4) := HH3.out.below.trans (hb4.mono hW3)
      have hW4 := HB4.out.size
      have HOne := hide hOne
      have HLo := hide hlo
      have HSo := hide hso
      have HVl := hide hvl
      have HVe := hide hve
      have HVa := hide hva
      have HLt := hide hlt
      have HW4 := hide hw4
      have HB34 := hide hb4
      have HOwnLt : Hid (∀ k, (Value.slice ja j.length jc).ownBlock = some k → k < wr.heap.size ∧ W.heap.size ≤ k) := fun k e => ⟨(World.ownsRow.lt hvo k e).2, (World.ownsRow.lt hvo k e).1⟩
      clear CS hOne hlo hso hvl hvo hve hva hlt hw3 hw4 hb4
      go_wp2_with (first | (at_builtin; refine wpList_append_lies _ (by rfl) (.tmp 10) (.tmp 14) 39 (by rfl) W.heap.size 38 i0 (.agg #[.slice none 0 0, .slice none 0 0]) 2 48 Tryz.underlying39 hi hz0 hz1 hz2 rfl (by decide) (.slice ja j.length jc) j.length (serCells vals) (by rfl) (own_alloc HO4.out _) ⟨w4.heap.size, 0, none⟩ 1 1 [.slice la s.1.length lc, .slice sa s.2.length sc] (by rfl) rfl (cells_new _ _ _) (one_two rfl rfl) (by decide) (by unfold maxLen; omega) (by omega) (by simp; omega) (w4.heap.size + 1) (by simp) ?_; intro g2 cap2 w5 hown5 hgrow hat hgl5) | fail)
      all_goals
        have HJ5 : Hid (JB W w5 hb (fun k => S0 k ∨ (Value.slice la s.1.length lc).ownBlock = some k ∨ (Value.slice sa s.2.length sc).ownBlock = some k) (.slice (some ⟨g2, 0, none⟩) (j.length + 1) cap2) (j ++ [s]) (d ++ (x :: aa)) ns ls) := by
          have hkeep : ∀ k, k < w4.heap.size → (Value.slice ja j.length jc).ownBlock ≠ some k → w5.heap[k]? = w4.heap[k]? := fun k hk hne => (hgrow.block k (by simp; omega) (fun e => hne e.symm)).trans (heap_alloc_old w4 _ hk)
          have hs5 : w4.heap.size ≤ w5.heap.size := by have := hgrow.size; simp at this; omega
          have hlL := fun k e => World.ownsRow.lt HLo.out k e
          have hlS := fun k e => World.ownsRow.lt HSo.out k e
          have hnew : ∀ k, w3.heap.size ≤ k → (Value.slice ja j.length jc).ownBlock ≠ some k := fun k hk e => by have := (HOwnLt.out k e).1; omega
          have hkS : ∀ k, S0 k → w5.heap[k]? = wr.heap[k]? := fun k hk => (hkeep k (by have := HLt.out k (.inl hk); omega) (HJ.out.apart k hk)).trans (HW4.out k (.inl hk))
          have hmem : ∀ y ∈ (x :: aa) ++ ns.flatten, y ∈ ms.flatten := fun y hy => HAl.out.perm.mem_iff.2 hy
          refine ⟨HH3.out.move (by omega) (fun k hk hn => ?_) (fun k o hk => ⟨hk.2, ?_⟩) ((HB4.out.alloc hW4 _).grown hgrow (by simp; omega) fun k e => (HOwnLt.out k e).2), ⟨vals ++ [(.slice la s.1.length lc, .slice sa s.2.length sc)], by simp [HVl.out], ?_, fun i p u hp hu => ?_, ?_⟩, fun k hk e => ?_, fun k hk => ?_, ?_, ?_, fun y hy z hz => ?_, HAl.out.rests, hnl3, by simp; omega⟩
          · have hne : (Value.slice ja j.length jc).ownBlock ≠ some k := fun e => by
              have h1 := Array.getElem?_eq_getElem (HLt.out k (.inr e))
              exact hn _ ⟨.inr e, h1⟩
            exact (hkeep k (by omega) hne).trans (HB34.out.block k hk)
          · rcases hk.1 with (h | h | h) | h
            · exact .inl ⟨_, .inl h, Array.getElem?_eq_getElem (HLt.out k (.inl h))⟩
            · exact .inr (hlL k h).1
            · exact .inr (hlS k h).1
            · have e2 : g2 = k := Option.some.inj h
              rcases hat with hat | hat
              · exact .inl ⟨_, .inr (by rw [← e2]; exact hat), Array.getElem?_eq_getElem (HLt.out k (.inr (by rw [← e2]; exact hat)))⟩
              · exact .inr (by omega)
          · rw [serCells_snoc]
            have el : (j ++ [s]).length = j.length + 1 := by simp
            rw [el]; exact hown5
          · rcases getElem?_snoc hp with ⟨hi', hp⟩ | ⟨hi', rfl⟩
            · rw [List.getElem?_append_left (by rw [← HVl.out]; exact hi')] at hu
              obtain ⟨h1, h2, h3, h4⟩ := HVe.out i p u hp hu
              exact ⟨own_kept h1 fun k e => hkS k (h3 k e), own_kept h2 fun k e => hkS k (h4 k e), fun k e => .inl (h3 k e), fun k e => .inl (h4 k e)⟩
            · rw [hi', HVl.out, List.getElem?_append_right (Nat.le_refl _), Nat.sub_self] at hu
              cases hu
              exact ⟨own_mono (own_kept HLo.out fun k e => hkeep k (hlL k e).2 (hnew k (hlL k e).1)) hW3, own_mono (own_kept HSo.out fun k e => hkeep k (hlS k e).2 (hnew k (hlS k e).1)) hW3, fun k e => .inr (.inl e), fun k e => .inr (.inr e)⟩
          · refine List.pairwise_append.2 ⟨HVa.out, List.pairwise_singleton _ _, fun p hp q hq => ?_⟩
            rw [List.mem_singleton.1 hq]
            obtain ⟨i, hi', e⟩ := List.mem_iff_getElem.1 hp
            have hpi : vals[i]? = some p := by rw [List.getElem?_eq_getElem hi', e]
            obtain ⟨u, hu⟩ : ∃ u, j[i]? = some u := ⟨_, List.getElem?_eq_getElem (by rw [← HVl.out]; exact hi')⟩
            obtain ⟨_, _, h3, h4⟩ := HVe.out i p u hpi hu
            exact ⟨fun k e e' => by have h5 := HLt.out k (.inl (h3 k e)); have h6 := (hlL k e').1; omega, fun k e e' => by have h5 := HLt.out k (.inl (h4 k e)); have h6 := (hlS k e').1; omega⟩
          · have e2 : g2 = k := Option.some.inj e
            rcases hat with hat | hat
            · rcases hk with h | h | h
              · exact HJ.out.apart k h (by rw [← e2]; exact hat)
              · exact hnew k (hlL k h).1 (by rw [← e2]; exact hat)
              · exact hnew k (hlS k h).1 (by rw [← e2]; exact hat)
            · rcases hk with h | h | h
              · have := HLt.out k (.inl h); omega
              · have := (hlL k h).2; omega
              · have := (hlS k h).2; omega
          · rcases hk with h | h | h
            · have := HLt.out k (.inl h); omega
            · have := (hlL k h).2; omega
            · have := (hlS k h).2; omega
          · exact HJ.out.tops.app HAl.out.same (by simp) HOne.out fun a ha y hy => HJ.out.less y hy a (hmem a (List.mem_append_left _ ha))
          · refine HJ.out.perm.trans ?_
            rw [List.append_assoc]
            exact List.Perm.append_left _ HAl.out.perm
          · rcases List.mem_append.1 hy with hy | hy
            · exact HJ.out.less y hy z (hmem z (List.mem_append_right _ hz))
            · have h1 := HAl.out.same y hy
              have h2 := HEnd.out z hz
              have h3 := cmpS_ok.neg x y
              exact cmpS_ok.eqv (by omega) h2
        clear HJ hown5 hgrow hat hgl5 HO4 HH3 HAl HEnd HLo HSo HVl HVe HVa HLt HW4 HB34 HOwnLt HOne HB4
        (try go_wp2)
        go_roundw
        case rel => exact ⟨_, j ++ [s], d ++ (x :: aa), ns, some ⟨g2, 0, none⟩, cap2, by simp, by rw [List.length_append]; exact HJ5.out⟩
        case measure => show ls.flatten.length - (j.length + 1) < ls.flatten.length - j.length; omega
end Go.Proofs.YtamcclcbmenjdaaGreatDoor

/- How long what is joined can be. -/
namespace Go.Proofs.YtamcclcbmenjdaaGreatDoor
open Go.RowKit Go.Lib

theorem nodup_len {α : Type} [DecidableEq α] : ∀ (l m : List α), l.Pairwise (fun x y => x ≠ y) → (∀ x ∈ l, x ∈ m) → l.length ≤ m.length
  | [], m, _, _ => Nat.zero_le _
  | x :: l, m, h, hm => by
    obtain ⟨h1, h2⟩ := List.pairwise_cons.1 h
    have hx := hm x (List.mem_cons_self ..)
    have ih := nodup_len l (m.erase x) h2 fun y hy => (List.mem_erase_of_ne (h1 y hy).symm).2 (hm y (List.mem_cons_of_mem _ hy))
    have := List.length_erase_of_mem hx
    have := List.length_pos_of_mem hx
    simp only [List.length_cons]
    omega
theorem Tops.len {d j : List (Int × Nat)} (h : Tops d j) : j.length ≤ d.length :=
  nodup_len j d (h.rise.imp fun {x y} hlt e => by subst e; exact absurd hlt (Int.lt_irrefl _)) fun x hx => ((h.mem x.1 x.2).1 hx).1
theorem STops.len {d j : List Ser} (h : STops d j) : j.length ≤ d.length := by
  haveI : DecidableEq (List Lab) := fun a b => Classical.propDecidable (a = b)
  have := nodup_len (j.map (·.1)) (d.map (·.1)) (List.pairwise_map.2 (h.rise.imp fun {x y} hlt e => by
    have h1 : cmpLabs x.1 y.1 = -1 := hlt
    rw [e, cmpLabs_self] at h1; omega)) fun l hl => by
      obtain ⟨s, hs, rfl⟩ := List.mem_map.1 hl
      obtain ⟨x, hx, e⟩ := h.back s hs
      exact List.mem_map.2 ⟨x, hx, e⟩
  simpa using this
theorem filt_len (p : Ser → Bool) : ∀ d : List Ser, ((d.filter p).map (·.2)).flatten.length ≤ (d.map (·.2)).flatten.length
  | [] => Nat.le_refl _
  | x :: d => by
    have ih := filt_len p d
    rw [List.filter_cons]
    split
    · simp only [List.map_cons, List.flatten_cons, List.length_append]; omega
    · simp only [List.map_cons, List.flatten_cons, List.length_append]; omega
theorem STops.sams {d j : List Ser} (h : STops d j) {s : Ser} (hs : s ∈ j) : s.2.length ≤ (d.map (·.2)).flatten.length := by
  refine Nat.le_trans (h.tops s hs).len ?_
  exact filt_len _ d
end Go.Proofs.YtamcclcbmenjdaaGreatDoor

/- join.All. -/
namespace Go.Proofs.YtamcclcbmenjdaaGreatDoor
open Go.RowKit Go.Lib

def Ranged (s : Ser) : Prop := ∀ x ∈ s.2, -9223372036854775808 ≤ x.1 ∧ x.1 ≤ 9223372036854775807 ∧ x.2 ≤ 18446744073709551615
theorem STops.ranged {d j : List Ser} (h : STops d j) (hd : ∀ s ∈ d, Ranged s) : ∀ s ∈ j, Ranged s := fun s hs x hx => by
  have h1 := (((h.tops s hs).mem x.1 x.2).1 hx).1
  obtain ⟨l, hl, hxl⟩ := List.mem_flatten.1 h1
  obtain ⟨y, hy, rfl⟩ := List.mem_map.1 hl
  exact hd y (List.mem_filter.1 hy).1 x hxl
theorem STops.small {d j : List Ser} (h : STops d j) (hd : ∀ s ∈ d, SerFit s) (h1 : d.length ≤ 1000000000) (h2 : samN d ≤ 1000000000000) : Small j := by
  refine ⟨by have := h.len; omega, fun s hs => ?_, fun s hs => ?_⟩
  · obtain ⟨x, hx, e⟩ := h.back s hs
    have := (hd x hx).1
    rw [← e]; omega
  · have h3 := h.sams hs
    have h4 : (d.map (·.2)).flatten.length ≤ 1000000000000 := h2
    omega

set_option maxRecDepth 100000 in
set_option maxHeartbeats 1000000 in
theorem joinAll_any (W : World) (v : Value) (bss : List (List Ser)) (hv : RowsR W v bss) (hok : ∀ bs ∈ bss, BatchOk bs) (hall : ∀ s ∈ bss.flatten, SerFit s ∧ Ranged s) (hn : bss.length ≤ 1000000000) (hfl : bss.flatten.length ≤ 1000000000) (hsa : samN bss.flatten ≤ 1000000000000) :
    Calls Tryz.prog 46 #[v] W fun e w' => ∃ j n, IsJoin bss j ∧ Code j n ∧ Below W.heap.size W w' ∧ ((n = 0 ∧ ∃ jv, e = .returned (.tuple #[jv, .int .i64 0]) ∧ FreshD w' W.heap.size jv j) ∨ (n ≠ 0 ∧ e = .returned (.tuple #[.slice none 0 0, .int .i64 n]))) := by
  obtain ⟨va, vc, rfl, -⟩ := id hv
  have C1 := hide (joinBatches_any W _ bss hv (fun l hl => LLt_cmp ((batchOk_iff l).1 (hok l hl)).2) (fun s hs => (hall s hs).1) hn hfl hsa)
  have HOk := hide hok
  have HAll := hide hall
  have HSa := hide hsa
  clear hv hok hall hsa
  go_enter Tryz.func46, Tryz.ntmps46
  go_wp2_with fail
  refine C1.out.mono ?_
  rintro e w1 ⟨jv, j, rfl, hT, hF, hb1⟩
  have hba := hF.batchAt (hT.ranged fun s hs => (HAll.out s hs).2)
  obtain ⟨ja, jc, rfl, -⟩ := id hba
  have C2 := hide (check_any w1.heap.size w1.heap.size (.slice ja j.length jc) j (w1.alloc (.cells #[.slice ja j.length jc] 39)) (World.cell?_alloc_new _ _ _ 0) (hba.kept fun k hk => heap_alloc_old w1 _ hk) (by simp) (by simp) (hT.small (fun s hs => (HAll.out s hs).1) hfl HSa.out))
  have HJ := hide (hT.join HOk.out)
  have HF := hide hF
  have HB1 := hide hb1
  have hs1 := hb1.size
  clear C1 hT hF hb1 hba
  go_wp2_with fail
  refine C2.out.mono ?_
  rintro e w2 ⟨⟨n, rfl, hn2⟩, hb2⟩
  have hb12 : Below w1.heap.size w1 w2 := ((Below.refl _ _).alloc (Nat.le_refl _) _).trans (hb2.mono (by simp))
  have HB2 : Hid (Below W.heap.size W w2) := HB1.out.trans (hb12.mono hs1)
  have HC := hide hn2
  have HF2 : Hid (FreshD w2 W.heap.size (.slice ja j.length jc) j) := by
    obtain ⟨vals, h1, h2, h3⟩ := HF.out
    exact ⟨vals, own_kept h1 fun k e => hb12.block k (World.ownsRow.lt h1 k e).2, h2.kept fun k _ hk => hb12.block k hk, h3⟩
  clear C2 hb2 hb12 HF HB1 hn2
  by_cases h0 : n = 0
  · subst h0
    go_wp2
    go_ret2
    exact ⟨j, 0, HJ.out, HC.out, HB2.out, .inl ⟨rfl, _, rfl, HF2.out⟩⟩
  · have h1 : ¬ (n : Int) = 0 := by omega
    have h2 : ((n : Int) == 0) = false := by simp [h0]
    go_wp2
    go_ret2
    exact ⟨j, n, HJ.out, HC.out, HB2.out, .inr ⟨h0, rfl⟩⟩
end Go.Proofs.YtamcclcbmenjdaaGreatDoor

/- choir.Join. -/
namespace Go.Proofs.YtamcclcbmenjdaaGreatDoor
open Go.RowKit Go.Lib

theorem limits_mem {bs : List Ser} (h : LimitsOk bs) : ∀ s ∈ bs, s.1.length ≤ 4 ∧ s.2.length ≤ 40 := fun s hs => by
  obtain ⟨i, hi, e⟩ := List.mem_iff_getElem.1 hs
  exact h.1 i s hi (by rw [List.getElem?_eq_getElem hi, e])
theorem samN_le {bs : List Ser} (h : ∀ s ∈ bs, s.2.length ≤ 40) : samN bs ≤ 40 * bs.length := by
  induction bs with
  | nil => simp [samN]
  | cons s r ih =>
    have h1 := h s (List.mem_cons_self ..)
    have h2 := ih fun x hx => h x (List.mem_cons_of_mem _ hx)
    have e : samN (s :: r) = s.2.length + samN r := by simp [samN]
    rw [e, List.length_cons]; omega
theorem fit_of {bs : List Ser} (h : BatchOk bs) (g : LimitsOk bs) : ∀ s ∈ bs, SerFit s := fun s hs => by
  rw [batchOk_iff] at h
  have h1 := h.1 s hs
  refine ⟨by have := (limits_mem g s hs).1; omega, fun t ht => ?_, SLt_cmp ((samplesOk_iff _).1 h1.2).2⟩
  obtain ⟨i, hi, e⟩ := List.mem_iff_getElem.1 ht
  have := h1.1.1 i t hi (by rw [List.getElem?_eq_getElem hi, e])
  exact ⟨Nat.le_trans this.2.1 (by decide), Nat.le_trans this.2.2 (by decide)⟩
theorem BatchAt.ranged {w : World} {B : Nat} {v : Value} {bs : List Ser} (h : BatchAt w B v bs) : ∀ s ∈ bs, Ranged s := fun s hs => by
  obtain ⟨i, hi, e⟩ := List.mem_iff_getElem.1 hs
  obtain ⟨a, c, rfl, -⟩ := id h
  obtain ⟨_, _, _, _, _, _, _, _, _, hS⟩ := batchGet h (j := i) (x := s) (by rw [List.getElem?_eq_getElem hi, e])
  exact hS.choose_spec.choose_spec.2.2.1
theorem BatchAt.wider {w : World} {B B' : Nat} {v : Value} {bs : List Ser} (h : BatchAt w B v bs) (hB : B ≤ B') : BatchAt w B' v bs := by
  obtain ⟨a, c, hv, hc, h2⟩ := h
  refine ⟨a, c, hv, hc, h2.imp id fun ⟨b, o, ha, hb, hcell⟩ => ⟨b, o, ha, by omega, fun i x hx => ?_⟩⟩
  obtain ⟨lv, sv, h1, h2, h3, h4⟩ := hcell i x hx
  exact ⟨lv, sv, h1, h2, h3.wider hB, h4.wider hB⟩
/-- What Join answers: the error and the join. -/
def JoinOf (a b : List Ser) (n : Nat) (j : List Ser) : Prop :=
  (n = 1 ∧ ¬ (BatchOk a ∧ BatchOk b)) ∨ (n = 2 ∧ BatchOk a ∧ BatchOk b ∧ ¬ (LimitsOk a ∧ LimitsOk b)) ∨ (BatchOk a ∧ BatchOk b ∧ LimitsOk a ∧ LimitsOk b ∧ IsJoin [a, b] j ∧ Code j n)
theorem two_all {a b : List Ser} {p : List Ser → Prop} : (∀ bs ∈ [a, b], p bs) ↔ p a ∧ p b := by simp
theorem two_get {a b : List Ser} {p : Nat → List Ser → Prop} (h0 : p 0 a) (h1 : p 1 b) : ∀ i bs, [a, b][i]? = some bs → p i bs := fun i bs h => by
  match i, h with
  | 0, h => simp at h; subst h; exact h0
  | 1, h => simp at h; subst h; exact h1
  | i + 2, h => simp at h

set_option maxRecDepth 100000 in
set_option maxHeartbeats 1000000 in
theorem join_any (W : World) (va vb : Value) (a b : List Ser) (ha : BatchAt W W.heap.size va a) (hb : BatchAt W W.heap.size vb b) (hsa : Small a) (hsb : Small b) :
    Calls Tryz.prog 52 #[va, vb] W fun e w' => ∃ n j, JoinOf a b n j ∧ Below W.heap.size W w' ∧ ((n = 0 ∧ ∃ jv, e = .returned (.tuple #[jv, .int .i64 0]) ∧ FreshD w' W.heap.size jv j) ∨ (n ≠ 0 ∧ e = .returned (.tuple #[.slice none 0 0, .int .i64 n]))) := by
  obtain ⟨aa, ac, rfl, -⟩ := id ha
  obtain ⟨ba, bc, rfl, -⟩ := id hb
  have C1 := hide (checks_any W.heap.size W.heap.size 0 2 [a, b] (W.alloc (.cells #[.slice aa a.length ac, .slice ba b.length bc] 39))
    (two_get ⟨_, World.cell?_alloc_new _ _ _ 0, ha.kept fun k hk => heap_alloc_old W _ hk⟩ ⟨_, World.cell?_alloc_new _ _ _ 1, hb.kept fun k hk => heap_alloc_old W _ hk⟩) (by simp) (by simp) (two_all.2 ⟨hsa, hsb⟩) (by simp))
  have HA := hide ha
  have HB := hide hb
  clear ha hb hsa hsb
  go_enter Tryz.func52, Tryz.ntmps52
  go_wp2_with fail
  refine C1.out.mono ?_
  rintro e w1 ⟨⟨n, rfl, hn⟩, hb1⟩
  have hb01 : Below W.heap.size W w1 := ((Below.refl _ _).alloc (Nat.le_refl _) _).trans (hb1.mono (by simp))
  have hs1 := hb01.size
  have HB1 := hide hb01
  have HC := hide hn
  clear C1 hb1 hb01 hn
  by_cases h0 : n = 0
  · subst h0
    obtain ⟨hok, hlim⟩ : (∀ bs ∈ [a, b], BatchOk bs) ∧ ∀ bs ∈ [a, b], LimitsOk bs := by
      rcases HC.out with ⟨h, _⟩ | ⟨h, _⟩ | ⟨_, h⟩
      · cases h
      · cases h
      · exact h
    have hA1 := HA.out.below HB1.out (Nat.le_refl _)
    have hB1 := HB.out.below HB1.out (Nat.le_refl _)
    have hfit : ∀ s ∈ ([a, b] : List (List Ser)).flatten, SerFit s ∧ Ranged s := fun s hs => by
      obtain ⟨l, hl, hs⟩ := List.mem_flatten.1 hs
      refine ⟨fit_of (hok l hl) (hlim l hl) s hs, ?_⟩
      rcases List.mem_cons.1 hl with e | hl
      · rw [e] at hs; exact HA.out.ranged s hs
      · rw [List.mem_singleton.1 hl] at hs; exact HB.out.ranged s hs
    have hla := (two_all.1 hlim).1
    have hlb := (two_all.1 hlim).2
    have hfl : ([a, b] : List (List Ser)).flatten.length ≤ 16 := by
      have h1 := hla.2; have h2 := hlb.2; simp; omega
    have hsam : samN ([a, b] : List (List Ser)).flatten ≤ 640 := by
      refine Nat.le_trans (samN_le fun s hs => ?_) (by omega)
      obtain ⟨l, hl, hs⟩ := List.mem_flatten.1 hs
      exact (limits_mem (hlim l hl) s hs).2
    have hrows : RowsR (w1.alloc (.cells #[.slice aa a.length ac, .slice ba b.length bc] 39)) (.slice (some ⟨w1.heap.size, 0, none⟩) 2 2) [a, b] :=
      ⟨_, _, rfl, two_get ⟨w1.heap.size, 0, aa, ac, rfl, by simp, World.cell?_alloc_new _ _ _ 0, (hA1.wider hs1).kept (fun k hk => heap_alloc_old w1 _ hk) |>.wider (by simp)⟩ ⟨w1.heap.size, 0, ba, bc, rfl, by simp, World.cell?_alloc_new _ _ _ 1, (hB1.wider hs1).kept (fun k hk => heap_alloc_old w1 _ hk) |>.wider (by simp)⟩⟩
    have C2 := hide (joinAll_any _ _ [a, b] hrows hok hfit (by simp) (by omega) (by omega))
    have HOk : Hid (BatchOk a ∧ BatchOk b ∧ LimitsOk a ∧ LimitsOk b) := ⟨(two_all.1 hok).1, (two_all.1 hok).2, hla, hlb⟩
    clear hA1 hB1 hfit hla hlb hfl hsam hrows hok hlim HA HB HC
    go_wp2_with fail
    refine C2.out.mono ?_
    rintro e w2 ⟨j, m, hj, hm, hb2, hr⟩
    have hb12 : Below W.heap.size W w2 := HB1.out.trans ((((Below.refl _ _).alloc (Nat.le_refl _) _).trans (hb2.mono (by simp))).mono hs1)
    have HB2 := hide hb12
    have HR : Hid (JoinOf a b m j) := .inr (.inr ⟨HOk.out.1, HOk.out.2.1, HOk.out.2.2.1, HOk.out.2.2.2, hj, hm⟩)
    clear C2 HOk hj hm hb12
    rcases hr with ⟨rfl, jv, rfl, hF⟩ | ⟨hm0, rfl⟩
    · have HF : Hid (FreshD w2 W.heap.size jv j) := by
        obtain ⟨vals, h1, h2, h3⟩ := hF
        exact ⟨vals, own_mono h1 (by simp; omega), ⟨h2.1, fun i p x hp hx => ⟨own_mono (h2.2 i p x hp hx).1 (by simp; omega), own_mono (h2.2 i p x hp hx).2 (by simp; omega)⟩⟩, h3⟩
      clear hF hb2
      go_wp2
      go_ret2
      exact ⟨0, j, HR.out, HB2.out, .inl ⟨rfl, _, rfl, HF.out⟩⟩
    · clear hb2
      go_wp2
      go_ret2
      exact ⟨m, j, HR.out, HB2.out, .inr ⟨hm0, rfl⟩⟩
  · have h1 : ¬ (n : Int) = 0 := by omega
    have h2 : ((n : Int) == 0) = false := by simp [h0]
    have HR : Hid (JoinOf a b n []) := by
      rcases HC.out with ⟨rfl, h⟩ | ⟨rfl, h, g⟩ | ⟨rfl, _⟩
      · exact .inl ⟨rfl, fun g => h (two_all.2 g)⟩
      · exact .inr (.inl ⟨rfl, (two_all.1 h).1, (two_all.1 h).2, fun k => g (two_all.2 k)⟩)
      · exact absurd rfl h0
    go_wp2
    go_ret2
    exact ⟨n, [], HR.out, HB1.out, .inr ⟨h0, rfl⟩⟩
end Go.Proofs.YtamcclcbmenjdaaGreatDoor

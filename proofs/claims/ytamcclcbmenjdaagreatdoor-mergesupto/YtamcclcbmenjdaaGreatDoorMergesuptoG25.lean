/- 'choirlaw.Merges', for any list of texts of bulk at most 1048576: Merge answers the document's frame or error; what is handed in stays. The second form's statement and its card: its only condition is the row's own bound on the argument's bulk. -/
import Derived.Test.YtamcclcbmenjdaaGreatDoorMergesuptoG24
import Derived.Deep.DeepAppendRoom
import Derived.OwnWalk
import Derived.Test.YtamcclcbmenjdaaGreatDoorMergesuptoG21
import Derived.Test.YtamcclcbmenjdaaGreatDoorMergesuptoG2
/- slices.MaxFunc of samples by their bits. -/
namespace Go.Proofs.YtamcclcbmenjdaaGreatDoor
open Go.RowKit Go.Lib

set_option maxHeartbeats 400000 in
theorem isNaNU_any (x : Nat) (w : World) : Calls Tryz.prog 209 #[.int .u64 x] w fun e w' => e = .returned (.bool false) ∧ w' = w := by
  go_enter Tryz.func209, Tryz.ntmps209
  go_wp2
  go_ret
  exact ⟨by simp, rfl⟩
set_option maxRecDepth 100000 in
set_option maxHeartbeats 400000 in
theorem compareU_any (x y : Nat) (w : World) : Calls Tryz.prog 196 #[.int .u64 x, .int .u64 y] w fun e w' => e = .returned (.int .i64 (cmpI x y)) ∧ w' = w := by
  have C := hide isNaNU_any
  by_cases h1 : (x : Int) < (y : Int)
  · have HE : Hid (cmpI x y = -1) := if_pos h1
    go_enter Tryz.func196, Tryz.ntmps196
    go_wp2_with (go_at_call 209; refine (C.out _ _).mono ?_; rintro e w' ⟨rfl, rfl⟩)
    go_ret
    exact ⟨ret_int HE.out.symm, rfl⟩
  · by_cases h2 : (y : Int) < (x : Int)
    · have HE : Hid (cmpI x y = 1) := by show (if (x : Int) < y then (-1 : Int) else if (y : Int) < x then 1 else 0) = 1; rw [if_neg h1, if_pos h2]
      go_enter Tryz.func196, Tryz.ntmps196
      go_wp2_with (go_at_call 209; refine (C.out _ _).mono ?_; rintro e w' ⟨rfl, rfl⟩)
      go_ret
      exact ⟨ret_int HE.out.symm, rfl⟩
    · have HE : Hid (cmpI x y = 0) := by show (if (x : Int) < y then (-1 : Int) else if (y : Int) < x then 1 else 0) = 0; rw [if_neg h1, if_neg h2]
      go_enter Tryz.func196, Tryz.ntmps196
      go_wp2_with (go_at_call 209; refine (C.out _ _).mono ?_; rintro e w' ⟨rfl, rfl⟩)
      go_ret
      exact ⟨ret_int HE.out.symm, rfl⟩
set_option maxRecDepth 100000 in
set_option maxHeartbeats 400000 in
theorem compareBits_any (x y : Int × Nat) (w : World) :
    Calls Tryz.prog 165 #[.agg #[.int .i64 x.1, .int .u64 x.2], .agg #[.int .i64 y.1, .int .u64 y.2]] w fun e w' => e = .returned (.int .i64 (cmpI x.2 y.2)) ∧ Below w.heap.size w w' := by
  have C := hide compareU_any
  go_enter Tryz.func165, Tryz.ntmps165
  go_wp2_with (go_at_call 196; refine (C.out _ _ _).mono ?_; rintro e w' ⟨rfl, rfl⟩)
  go_ret
  exact ⟨rfl, ((Below.refl _ _).alloc (Nat.le_refl _) _).alloc (by simp) _⟩

theorem two_set {w : World} {r : Nat} {z0 z1 : Value} {ty : TypeId} (h : w.heap[r]? = some (.cells #[z0, z1] ty)) (u v : Value) : ((w.setCell ⟨r, 0, none⟩ u).setCell ⟨r, 1, none⟩ v).heap[r]? = some (.cells #[u, v] ty) := by
  have h1 : (w.setCell ⟨r, 0, none⟩ u).heap[r]? = some (.cells #[u, z1] ty) := by
    rw [setCell_eq_setRow w r 0 _ ty (0, 0) u h]; exact setRow_heap w r _ _ ty (0, 0) h
  rw [setCell_eq_setRow _ r 1 _ ty (0, 0) v h1]; exact setRow_heap _ r _ _ ty (0, 0) h1
theorem cmpI_pos (x y : Nat) : 0 < cmpI x y ↔ y < x := by
  unfold cmpI
  split
  · omega
  · split <;> omega

set_option maxRecDepth 100000 in
set_option maxHeartbeats 1000000 in
theorem maxBits_any (W : World) (b n cap : Nat) (l : List (Int × Nat)) (hl : l ≠ []) (hn : n = l.length) (hb : b < W.heap.size) (hc : ∀ i x, l[i]? = some x → W.cell? ⟨b, i * 2, none⟩ = some (.int .i64 x.1) ∧ W.cell? ⟨b, i * 2 + 1, none⟩ = some (.int .u64 x.2)) (hlen : l.length ≤ 10000000000000) :
    Calls Tryz.prog 163 #[.slice (some ⟨b, 0, none⟩) n cap, .func (.func 165) #[] #[]] W fun e w' => ∃ m, e = .returned (.agg #[.int .i64 m.1, .int .u64 m.2]) ∧ m ∈ l ∧ (∀ x ∈ l, x.2 ≤ m.2) ∧ Below W.heap.size W w' := by
  subst hn
  obtain ⟨x0, r, rfl⟩ := List.exists_cons_of_ne_nil hl
  have HC := hide hc
  have C := hide compareBits_any
  have c0 := (hc 0 x0 rfl).1
  have c1 := (hc 0 x0 rfl).2
  simp only [Nat.zero_mul, Nat.zero_add] at c0 c1
  have hlen' : r.length + 1 ≤ 10000000000000 := hlen
  clear hc hl hlen
  go_enter Tryz.func163, Tryz.ntmps163
  go_wp2
  go_loopw [6] (fun iv wr => ∃ (i : Nat) (m : Int × Nat), 1 ≤ i ∧ i ≤ r.length + 1 ∧ iv = .int .i64 i ∧ Hid (m ∈ x0 :: r) ∧ Hid (∀ x ∈ (x0 :: r).take i, x.2 ≤ m.2) ∧ Hid (Below W.heap.size W wr) ∧ Hid (wr.heap[W.heap.size]? = some (.cells #[.int .i64 0, .int .u64 0] 34)) ∧ Hid (wr.heap[W.heap.size + 1]? = some (.cells #[.int .i64 m.1, .int .u64 m.2] 34))) (fun iv _ => r.length + 1 - (intOf iv).toNat)
  case atStart => exact ⟨1, x0, Nat.le_refl _, by omega, rfl, List.mem_cons_self .., fun x hx => by simp at hx; subst hx; exact Nat.le_refl _, ((Below.refl _ _).alloc (Nat.le_refl _) _).alloc (by simp) _, (heap_alloc_old _ _ (by simp)).trans (alloc_heap_new _ _), by show _ = _; have := alloc_heap_new (W.alloc (.cells #[.int .i64 0, .int .u64 0] 34)) (.cells #[.int .i64 x0.1, .int .u64 x0.2] 34); simpa using this⟩
  case round =>
    clear c0 c1
    obtain ⟨i, m, h1, hi, rfl, HM, HX, HB, HR, HG⟩ := hrel
    have hrs := HR.out
    have hgs := HG.out
    have hlr := lt_of_heapS hrs
    have hlg := lt_of_heapS hgs
    have d0 : wr.cell? ⟨W.heap.size + 1, 0, none⟩ = some (.int .i64 m.1) := by simp [World.cell?, hgs]
    have d1 : wr.cell? ⟨W.heap.size + 1, 1, none⟩ = some (.int .u64 m.2) := by simp [World.cell?, hgs]
    have r0 : wr.cell? ⟨W.heap.size, 0, none⟩ = some (.int .i64 0) := by simp [World.cell?, hrs]
    have r1 : wr.cell? ⟨W.heap.size, 1, none⟩ = some (.int .u64 0) := by simp [World.cell?, hrs]
    have fr0 : wr.frozen? ⟨W.heap.size, 0, none⟩ = false := by simp [World.frozen?, hrs]
    have fr1 : wr.frozen? ⟨W.heap.size, 1, none⟩ = false := by simp [World.frozen?, hrs]
    by_cases hlt : i < r.length + 1
    · obtain ⟨x, hx⟩ : ∃ x, (x0 :: r)[i]? = some x := ⟨_, List.getElem?_eq_getElem hlt⟩
      have hxm := List.mem_of_getElem? hx
      have ht := take_more (x0 :: r) i x hx
      have c0 := (HB.out.cell (p := ⟨b, i * 2, none⟩) hb).trans (HC.out i x hx).1
      have c1 := (HB.out.cell (p := ⟨b, i * 2 + 1, none⟩) hb).trans (HC.out i x hx).2
      have i1 : (i : Int) < (r.length : Int) + 1 := by omega
      have hbr : b < wr.heap.size := by omega
      have hne : ¬ b = W.heap.size + 1 := by omega
      have HXm := hide hxm
      have HT := hide ht
      clear hx hxm ht hrs hgs r0 r1 fr0 fr1
      go_wp2
      as_aux_lemma =>
        go_region_held3 (fun w' => w'.cell? ⟨b, i * 2, none⟩ = some (.int .i64 x.1) ∧ w'.cell? ⟨b, i * 2 + 1, none⟩ = some (.int .u64 x.2) ∧ w'.cell? ⟨W.heap.size + 1, 0, none⟩ = some (.int .i64 m.1) ∧ w'.cell? ⟨W.heap.size + 1, 1, none⟩ = some (.int .u64 m.2)) (go_keep) (first | (go_at_call 165; refine (C.out x m _).mono ?_; rintro e w2 ⟨rfl, hb3⟩; have y0 := (hb3.cell (p := ⟨b, i * 2, none⟩) hbr).trans c0; have y1 := (hb3.cell (p := ⟨b, i * 2 + 1, none⟩) hbr).trans c1; have y2 := (hb3.cell (p := ⟨W.heap.size + 1, 0, none⟩) hlg).trans d0; have y3 := (hb3.cell (p := ⟨W.heap.size + 1, 1, none⟩) hlg).trans d1))
        all_goals
          have hb4 : Below wr.heap.size wr w2 := (Below.refl wr.heap.size wr).drew.trans hb3
          have HB2 : Hid (Below W.heap.size W w2) := HB.out.trans (hb4.mono HB.out.size)
          have HR2 : Hid (w2.heap[W.heap.size]? = some (.cells #[.int .i64 0, .int .u64 0] 34)) := (hb4.block _ hlr).trans HR.out
          have HG2 : Hid (w2.heap[W.heap.size + 1]? = some (.cells #[.int .i64 m.1, .int .u64 m.2] 34)) := (hb4.block _ hlg).trans HG.out
          clear hb3 hb4 c0 c1 d0 d1
          by_cases hc : 0 < cmpI x.2 m.2
          · have hcd : decide (0 < cmpI x.2 m.2) = true := decide_eq_true hc
            have f0 : w2.frozen? ⟨W.heap.size + 1, 0, none⟩ = false := by simp [World.frozen?, HG2.out]
            have f1 : w2.frozen? ⟨W.heap.size + 1, 1, none⟩ = false := by simp [World.frozen?, HG2.out]
            have HS := hide (two_set HG2.out (.int .i64 x.1) (.int .u64 x.2))
            have HX2 : Hid (∀ z ∈ (x0 :: r).take (i + 1), z.2 ≤ x.2) := fun z hz => by
              rw [HT.out] at hz
              have := (cmpI_pos x.2 m.2).1 hc
              rcases List.mem_append.1 hz with hz | hz
              · have := HX.out z hz; omega
              · simp at hz; subst hz; exact Nat.le_refl _
            have HR3 : Hid (((w2.setCell ⟨W.heap.size + 1, 0, none⟩ (.int .i64 x.1)).setCell ⟨W.heap.size + 1, 1, none⟩ (.int .u64 x.2)).heap[W.heap.size]? = some (.cells #[.int .i64 0, .int .u64 0] 34)) := (Below.heap_setCell _ _ _ _ (by simp)).trans ((Below.heap_setCell _ _ _ _ (by simp)).trans HR2.out)
            have HB3 : Hid (Below W.heap.size W ((w2.setCell ⟨W.heap.size + 1, 0, none⟩ (.int .i64 x.1)).setCell ⟨W.heap.size + 1, 1, none⟩ (.int .u64 x.2))) := (HB2.out.setCell (p := ⟨W.heap.size + 1, 0, none⟩) (by simp) _).setCell (p := ⟨W.heap.size + 1, 1, none⟩) (by simp) _
            clear HB2 HR2 HG2 HX HB HR HG HT
            go_wp2
            go_roundw
            case rel => exact ⟨i + 1, x, by omega, by omega, by go_num, HXm.out, HX2.out, HB3.out, HR3.out, HS.out⟩
            case measure => simp [intOf]; omega
          · have hcd : decide (0 < cmpI x.2 m.2) = false := decide_eq_false hc
            have HX2 : Hid (∀ z ∈ (x0 :: r).take (i + 1), z.2 ≤ m.2) := fun z hz => by
              rw [HT.out] at hz
              have := fun e => hc ((cmpI_pos x.2 m.2).2 e)
              rcases List.mem_append.1 hz with hz | hz
              · exact HX.out z hz
              · simp at hz; subst hz; exact Nat.le_of_not_lt this
            clear HX HB HR HG HT
            go_wp2
            go_roundw
            case rel => exact ⟨i + 1, m, by omega, by omega, by go_num, HM.out, HX2.out, HB2.out, HR2.out, HG2.out⟩
            case measure => simp [intOf]; omega
    · have i1 : ¬ (i : Int) < (r.length : Int) + 1 := by omega
      have HA : Hid (∀ x ∈ x0 :: r, x.2 ≤ m.2) := fun x hx => HX.out x (by
        have e : i = (x0 :: r).length := by show i = r.length + 1; omega
        rw [e, List.take_length]; exact hx)
      have HB3 : Hid (Below W.heap.size W ((wr.setCell ⟨W.heap.size, 0, none⟩ (.int .i64 m.1)).setCell ⟨W.heap.size, 1, none⟩ (.int .u64 m.2))) := (HB.out.setCell (p := ⟨W.heap.size, 0, none⟩) (Nat.le_refl _) _).setCell (p := ⟨W.heap.size, 1, none⟩) (Nat.le_refl _) _
      clear HB HR HG HX hrs hgs
      go_wp2
      (try simp only [Exit.inBlock, Exit.then])
      refine bodyPost_ret (v := .agg #[.int .i64 m.1, .int .u64 m.2]) (by rw [results_cell1S rfl]; go_simp) rfl ?_
      first | exact ⟨m, rfl, HM.out, HA.out, HB3.out⟩ | exact ⟨m.1, m.2, rfl, List.mem_cons.1 HM.out, ⟨HA.out _ (List.mem_cons_self ..), fun a b h => HA.out (a, b) (List.mem_cons_of_mem _ h)⟩, HB3.out⟩
end Go.Proofs.YtamcclcbmenjdaaGreatDoor

/- join.joinSamples: of each time the greatest bits. -/
namespace Go.Proofs.YtamcclcbmenjdaaGreatDoor
open Go.RowKit Go.Lib

theorem RowS.cells {w0 W : World} {av : Value} {aa : List (Int × Nat)} (h : RowS w0 W av aa) (h0 : aa ≠ []) : ∃ g cap, av = .slice (some ⟨g, 0, none⟩) aa.length cap ∧ g < W.heap.size ∧ ∀ i x, aa[i]? = some x → W.cell? ⟨g, i * 2, none⟩ = some (.int .i64 x.1) ∧ W.cell? ⟨g, i * 2 + 1, none⟩ = some (.int .u64 x.2) := by
  obtain ⟨vals, h1, h2, h3⟩ := h.row
  obtain ⟨g, cap, e⟩ : ∃ g cap, av = .slice (some ⟨g, 0, none⟩) aa.length cap := by
    rcases h2.2 with ⟨_, h0'⟩ | ⟨g, cap, cur, e, _⟩
    · exact absurd (List.eq_nil_of_length_eq_zero h0') h0
    · exact ⟨g, cap, e⟩
  subst e
  refine ⟨g, cap, rfl, (World.ownsRow.lt h2 g rfl).2, fun i x hx => ?_⟩
  obtain ⟨p, hp⟩ : ∃ p, vals[i]? = some p := ⟨_, List.getElem?_eq_getElem (by rw [h1]; exact (List.getElem?_eq_some_iff.1 hx).1)⟩
  have hg := pair_get (fun x : Value × Value => x.1) (fun x => x.2) vals i p hp
  obtain ⟨e0, e1⟩ := h3 i p x hp hx
  rw [← e0, ← e1]
  exact ⟨own_cell h2 hg.1, own_cell h2 hg.2⟩
/-- The loop's state: what has been joined (j) of what has been taken (d), what is left (ms). -/
structure JS (W w : World) (hb : Nat) (jv : Value) (j d : List (Int × Nat)) (ms ls : List (List (Int × Nat))) : Prop where
  heap : HeapS W (fun k o => jv.ownBlock = some k ∧ w.heap[k]? = some o) w hb ms
  own : w.ownsRow W.heap.size 34 2 jv j.length (samCells j)
  tops : Tops d j
  perm : ls.flatten.Perm (d ++ ms.flatten)
  less : ∀ y ∈ d, ∀ z ∈ ms.flatten, cmpT y z = -1
  rests : Rests cmpT ms
  len : ms.length ≤ 1000000000
  jl : j.length ≤ d.length

set_option maxRecDepth 100000 in
set_option maxHeartbeats 1000000 in
theorem joinSamples_any (W : World) (v : Value) (ls : List (List (Int × Nat))) (hv : RowsS W v ls) (hr : ∀ l ∈ ls, l.Pairwise fun x y => cmpT x y = -1) (hn : ls.length ≤ 1000000000) (hfl : ls.flatten.length ≤ 1000000000000) :
    Calls Tryz.prog 140 #[v] W fun e w' => ∃ jv j, e = .returned jv ∧ Tops ls.flatten j ∧ w'.ownsRow W.heap.size 34 2 jv j.length (samCells j) ∧ Below W.heap.size W w' := by
  obtain ⟨i0, hi, hz0, hz1, hz2⟩ := info_parts Tryz.infoElS
  obtain ⟨va, vc, rfl, -⟩ := id hv
  have C1 := hide (restsOfS_any W _ hv (fun _ _ _ _ => trivial) hn)
  have HJ0 : Hid (∀ w1 hb, HeapS W (fun _ _ => False) w1 hb (full ls) → JS W w1 hb (.slice none 0 0) [] [] (full ls) ls) := fun w1 hb h =>
    ⟨h.move (Nat.le_refl _) (fun _ _ _ => rfl) (fun k o hk => by cases hk.1) h.below, World.ownsRow_nil _ _ _ _, Tops.nil, by rw [full_flat]; exact List.Perm.refl _, (fun y hy => (by cases hy)), full_rests hr, Nat.le_trans (full_len ls) hn, Nat.le_refl _⟩
  clear hv hr
  go_enter Tryz.func140, Tryz.ntmps140
  go_wp2_with fail
  refine C1.out.mono ?_
  rintro e w1 ⟨hb, rfl, hH⟩
  have HJ1 := hide (HJ0.out _ _ hH)
  clear hH C1 HJ0
  go_wp2_with fail
  go_loopw [4] (fun jv wr => ∃ (j d : List (Int × Nat)) (ms : List (List (Int × Nat))) (ja : Option Addr) (jc : Nat), jv = .slice ja j.length jc ∧ Hid (JS W wr hb (.slice ja j.length jc) j d ms ls)) (fun jv _ => ls.flatten.length - sliceLen jv)
  case atStart => exact ⟨[], [], full ls, none, 0, rfl, HJ1.out⟩
  case round =>
    clear HJ1
    obtain ⟨j, d, ms, ja, jc, rfl, HJ⟩ := hrel
    have CLen := hide (heapLenS_any wr HJ.out.heap)
    by_cases hms : ms = []
    · subst hms
      have HT : Hid (Tops ls.flatten j) := HJ.out.tops.perm (by have := HJ.out.perm; simp only [List.flatten_nil, List.append_nil] at this; exact this.symm)
      go_wp2_with fail
      refine CLen.out.mono ?_
      rintro e w2 ⟨rfl, rfl⟩
      have HO := hide HJ.out.own
      have HB := hide HJ.out.heap.below
      clear CLen HJ
      go_wp2
      go_ret
      exact ⟨_, j, rfl, HT.out, HO.out, HB.out⟩
    · have hpos : 0 < ms.length := List.length_pos_iff.2 hms
      have n0 : (0 : Int) < (ms.length : Int) := by omega
      have htot := HJ.out.perm.length_eq
      rw [List.length_append] at htot
      have hjl := HJ.out.jl
      have hfm : 1 ≤ ms.flatten.length := by
        obtain ⟨l, hl⟩ := List.exists_mem_of_ne_nil _ hms
        obtain ⟨z, hz⟩ := List.exists_mem_of_ne_nil _ (HJ.out.rests.some l hl)
        have := List.length_pos_of_mem (List.mem_flatten.2 ⟨l, hl, hz⟩)
        omega
      have CT := hide (takeAlikeS_any wr HJ.out.heap (fun _ _ _ _ => trivial) HJ.out.len (by omega) HJ.out.rests hms)
      go_wp2_with fail
      refine CLen.out.mono ?_
      rintro e w2 ⟨rfl, rfl⟩
      clear CLen
      go_wp2_with fail
      refine CT.out.mono ?_
      rintro e w3 ⟨av, x, aa, ns, rfl, hRow, hAl, hEnd, hH3, hsz3, hnl3⟩
      obtain ⟨g, cap, rfl, hg, hcells⟩ := hRow.cells (by simp)
      have hal : (x :: aa).length ≤ ms.flatten.length := by
        have := hAl.perm.length_eq
        rw [List.length_append] at this; omega
      have CM := hide (maxBits_any w3 g (x :: aa).length cap (x :: aa) (by simp) rfl hg hcells (by omega))
      have HAl := hide hAl
      have HEnd := hide hEnd
      have HH3 := hide hH3
      clear CT hcells hRow hAl hEnd hH3
      go_wp2_with fail
      refine CM.out.mono ?_
      rintro e w4 ⟨m, rfl, hm, hmax, hb4⟩
      have hkeepJ : ∀ k, (Value.slice ja j.length jc).ownBlock = some k → ∃ o, wr.heap[k]? = some o ∧ w4.heap[k]? = some o := fun k e => by
        have hk := (World.ownsRow.lt HJ.out.own k e).2
        have h3 := HH3.out.kp (k := k) ⟨e, Array.getElem?_eq_getElem hk⟩
        exact ⟨_, Array.getElem?_eq_getElem hk, (hb4.block k (lt_of_heapS h3)).trans h3⟩
      have HO4 : Hid (w4.ownsRow W.heap.size 34 2 (.slice ja j.length jc) j.length (samCells j)) := own_kept HJ.out.own fun k e => by
        obtain ⟨o, h1, h2⟩ := hkeepJ k e
        rw [h1, h2]
      have HK4 := hide hkeepJ
      have hH4 := HH3.out.kept hb4
      have hw4 := hH4.below.size
      have HH4 := hide hH4
      have HM := hide hm
      have HMx := hide hmax
      clear CM HH3 hH4 hkeepJ hm hmax hb4
      go_wp2_with (first | (at_builtin; refine wpList_append_lies _ (by rfl) (.tmp 10) (.tmp 14) 35 (by rfl) W.heap.size 34 i0 (.agg #[.int .i64 0, .int .u64 0]) 2 16 Tryz.underlying35 hi hz0 hz1 hz2 rfl (by decide) (.slice ja j.length jc) j.length (samCells j) (by rfl) (own_alloc HO4.out _) ⟨w4.heap.size, 0, none⟩ 1 1 [.int .i64 m.1, .int .u64 m.2] (by rfl) rfl (cells_new _ _ _) (one_two rfl rfl) (by decide) (by unfold maxLen; omega) (by omega) (by simp; omega) (w4.heap.size + 1) (by simp) ?_; intro g2 cap2 w5 hown5 hgrow hat hgl5))
      all_goals
        have HJ5 : Hid (JS W w5 hb (.slice (some ⟨g2, 0, none⟩) (j.length + 1) cap2) (j ++ [m]) (d ++ (x :: aa)) ns ls) := by
          have hkeep : ∀ k, k < w4.heap.size → (Value.slice ja j.length jc).ownBlock ≠ some k → w5.heap[k]? = w4.heap[k]? := fun k hk hne => (hgrow.block k (by simp; omega) (fun e => hne e.symm)).trans (heap_alloc_old w4 _ hk)
          have hs5 : w4.heap.size ≤ w5.heap.size := by have := hgrow.size; simp at this; omega
          have hsub : ∀ y ∈ (x :: aa) ++ ns.flatten, y ∈ ms.flatten := fun y hy => HAl.out.perm.mem_iff.2 hy
          refine ⟨HH4.out.move hs5 (fun k hk hn => hkeep k hk fun e => ?_) (fun k o hk => ⟨hk.2, ?_⟩) ((HH4.out.below.alloc hw4 _).grown hgrow (by simp; omega) fun k e => (World.ownsRow.lt HO4.out k e).1), ?_, ?_, ?_, fun y hy z hz => ?_, HAl.out.rests, hnl3, by simp; omega⟩
          · obtain ⟨o, h1, _⟩ := HK4.out k e
            exact hn o ⟨e, h1⟩
          · have e2 : g2 = k := Option.some.inj hk.1
            rcases hat with hat | hat
            · obtain ⟨o', h1, _⟩ := HK4.out g2 hat
              exact .inl ⟨o', by rw [← e2]; exact ⟨hat, h1⟩⟩
            · exact .inr (by omega)
          · have e2 : (j ++ [m]).length = j.length + 1 := by simp
            have e3 : samCells (j ++ [m]) = samCells j ++ [.int .i64 m.1, .int .u64 m.2] := by simp [samCells]
            rw [e2, e3]; exact hown5
          · exact HJ.out.tops.app HAl.out.same HM.out HMx.out fun a ha y hy => HJ.out.less y hy a (hsub a (List.mem_append_left _ ha))
          · refine HJ.out.perm.trans ?_
            rw [List.append_assoc]
            exact List.Perm.append_left _ HAl.out.perm
          · rcases List.mem_append.1 hy with hy | hy
            · exact HJ.out.less y hy z (hsub z (List.mem_append_right _ hz))
            · have h1 := HAl.out.same y hy
              have h2 := HEnd.out z hz
              have h3 := cmpT_ok.neg x y
              exact cmpT_ok.eqv (by omega) h2
        clear HJ hown5 hgrow hat hgl5 HO4 HH4 HK4 HAl HEnd HM HMx
        go_wp2
        go_roundw
        case rel => exact ⟨j ++ [m], d ++ (x :: aa), ns, some ⟨g2, 0, none⟩, cap2, by simp, by rw [List.length_append]; exact HJ5.out⟩
        case measure => show ls.flatten.length - (j.length + 1) < ls.flatten.length - j.length; omega
end Go.Proofs.YtamcclcbmenjdaaGreatDoor

/- batch.CopyLabels. -/
namespace Go.Proofs.YtamcclcbmenjdaaGreatDoor
open Go.RowKit Go.Lib

set_option maxHeartbeats 400000 in
theorem cloned_any (s : ByteArray) (w : World) (hs : s.size ≤ 140737488355328) :
    Calls Tryz.prog 103 #[.string s] w fun e w' => e = .returned (.string s) ∧ Below w.heap.size w w' := by
  have C := hide (Tryz.stringslite_Clone s w (by omega))
  go_enter Tryz.func103, Tryz.ntmps103
  go_wp2_with fail
  refine C.out.mono ?_
  rintro e w1 ⟨rfl, hb⟩
  have HB := hide hb
  clear hb C
  go_wp2
  go_ret
  exact ⟨rfl, HB.out⟩

set_option maxRecDepth 100000 in
set_option maxHeartbeats 1000000 in
theorem copyLabels_any (W : World) (v : Value) (l : List Lab) (hv : LabelsAt W W.heap.size v l) (hl : l.length ≤ 1000000000000) (ht : ∀ x ∈ l, x.1.size ≤ 140737488355328 ∧ x.2.size ≤ 140737488355328) :
    Calls Tryz.prog 97 #[v] W fun e w' => ∃ v', e = .returned v' ∧ w'.ownsRow W.heap.size 80 2 v' l.length (labCells l) ∧ Below W.heap.size W w' := by
  obtain ⟨i0, hi, hz0, hz1, hz2⟩ := info_parts Tryz.infoLab
  obtain ⟨va, vc, rfl, -⟩ := id hv
  have HV := hide hv
  have HT := hide ht
  have hsz : W.heap.size ≤ W.heap.size := Nat.le_refl _
  clear hv ht
  go_enter Tryz.func97, Tryz.ntmps97
  go_wp2_with (first | (at_make; refine wpList_make_own _ rfl _ _ 36 rfl W.heap.size 80 i0 _ 2 Tryz.underlying36 hi hz0 hz1 .i64 .i64 _ l.length rfl rfl rfl (by rw [hz2]; omega) (by unfold maxLen; omega) hsz ?_; intro w2 hown2 hgrow2))
  have HO2 := hide hown2
  have HB2 : Hid (Below W.heap.size W w2) := (Below.refl _ _).grown hgrow2 (Nat.le_refl _) (fun k e => (by cases e))
  clear hown2 hgrow2
  go_wp2
  go_loopw [3, 5, 11] (fun o _ i wr => ∃ k g cap : Nat, k ≤ l.length ∧ i = .int .i64 k ∧ o = .slice (some ⟨g, 0, none⟩) k cap ∧ Hid (wr.ownsRow W.heap.size 80 2 (.slice (some ⟨g, 0, none⟩) k cap) k (labCells (l.take k))) ∧ Hid (Below W.heap.size W wr)) (fun _ _ i _ => l.length - (intOf i).toNat)
  case atStart => exact ⟨0, W.heap.size, l.length, Nat.zero_le _, rfl, rfl, HO2.out, HB2.out⟩
  case round =>
    clear HO2 HB2
    obtain ⟨k, g, cap, hk, rfl, rfl, HO, HB⟩ := hrel
    by_cases hlt : k < l.length
    · obtain ⟨x, hx⟩ : ∃ x, l[k]? = some x := ⟨_, List.getElem?_eq_getElem hlt⟩
      obtain ⟨b, o, rfl, hbB, c0, c1⟩ := HV.out.get hx
      have k0 := (HB.out.cell (p := ⟨b, o + k * 2, none⟩) hbB).trans c0
      have k1 := (HB.out.cell (p := ⟨b, o + k * 2 + 1, none⟩) hbB).trans c1
      have hxt := HT.out x (List.mem_of_getElem? hx)
      have HTk := hide (take_more l k x hx)
      have hws := HB.out.size
      have i1 : (k : Int) < (l.length : Int) := by omega
      obtain ⟨x1, x2⟩ := x
      simp only at k0 k1 hxt
      clear c0 c1 hx
      go_wp2
      have hg := World.ownsRow.lt HO.out g rfl
      have HO1 := hide (own_alloc HO.out (.cells #[.string x1, .string x2] 80))
      have s0 : (wr.alloc (.cells #[.string x1, .string x2] 80)).cell? ⟨wr.heap.size, 0, none⟩ = some (.string x1) := World.cell?_alloc_new _ _ _ 0
      have s1 : (wr.alloc (.cells #[.string x1, .string x2] 80)).cell? ⟨wr.heap.size, 1, none⟩ = some (.string x2) := World.cell?_alloc_new _ _ _ 1
      have HB1 : Hid (Below W.heap.size W (wr.alloc (.cells #[.string x1, .string x2] 80))) := HB.out.alloc hws _
      have hsb : wr.heap.size < (wr.alloc (.cells #[.string x1, .string x2] 80)).heap.size := by simp
      clear HO HB k0 k1
      generalize wr.alloc (.cells #[.string x1, .string x2] 80) = W1 at *
      generalize wr.heap.size = sb at *
      have CC : Hid (∀ (s : ByteArray) (W2 : World), s.size ≤ 140737488355328 → Below W1.heap.size W1 W2 → Calls Tryz.prog 103 #[.string s] W2 fun e w' => e = .returned (.string s) ∧ Below W1.heap.size W1 w') := fun s W2 hs h2 =>
        (cloned_any s W2 hs).mono fun e w' h => ⟨h.1, h2.trans (h.2.mono h2.size)⟩
      have hx1 := hxt.1
      have hx2 := hxt.2
      have hg1 := hg.1
      have hg2 := hg.2
      have hgW : g < W1.heap.size := by omega
      have hgs : g ≠ sb := by omega
      have HW1 := HB1.out.size
      clear hxt hg
      as_aux_lemma =>
        go_region_held3 (fun w' => w'.cell? ⟨sb, 0, none⟩ = some (.string x1) ∧ w'.cell? ⟨sb, 1, none⟩ = some (.string x2)) (first | go_keep | (go_split_ands; refine ⟨?_, ?_⟩ <;> (rw [hgrow.cell_far _ (by simp; have := hb3.size; omega) (by intro e; exact hgs (Option.some.inj e).symm)]; first | assumption | (simp; assumption)))) (first | (go_at_call 103; refine (CC.out _ _ (by first | exact hx1 | exact hx2) (by first | assumption | exact (Below.refl _ _).drew | exact Below.drew (by assumption))).mono ?_; rintro e w3 ⟨rfl, hb3⟩; have y0 := (hb3.cell (p := ⟨sb, 0, none⟩) hsb).trans s0; have y1 := (hb3.cell (p := ⟨sb, 1, none⟩) hsb).trans s1) | (refine step_append_lies _ (by rfl) (.tmp 15) (.tmp 23) 36 (by rfl) W.heap.size 80 i0 (.agg #[.string ByteArray.empty, .string ByteArray.empty]) 2 32 Tryz.underlying36 hi hz0 hz1 hz2 rfl (by decide) (.slice (some ⟨g, 0, none⟩) k cap) k (labCells (l.take k)) (by rfl) (own_alloc (own_kept HO1.out fun q e => by cases e; exact hb3.block g hgW) _) ⟨w3.heap.size, 0, none⟩ 1 1 [.string x1, .string x2] (by rfl) rfl (by exact cells_new _ _ _) (one_two rfl rfl) (by decide) (by unfold maxLen; omega) (by omega) (by simp; have := hb3.size; omega) (w3.heap.size + 1) (by simp) ?_; intro g2 cap2 w5 hown5 hgrow hat hgl5) | fail)
        all_goals
          have HO5 : Hid (w5.ownsRow W.heap.size 80 2 (.slice (some ⟨g2, 0, none⟩) (k + 1) cap2) (k + 1) (labCells (l.take (k + 1)))) := by
            rw [HTk.out, labCells_snoc]; exact hown5
          have HB5 : Hid (Below W.heap.size W w5) := ((HB1.out.trans (hb3.mono HW1)).alloc (by have := hb3.size; omega) _).grown hgrow (by simp; have := hb3.size; omega) (fun q e => by cases e; exact hg1)
          clear hown5 hgrow hat hgl5 hb3 y0 y1 s0 s1 CC HO1 HB1
          go_wp2
          go_roundw
          case rel => exact ⟨k + 1, g2, cap2, by omega, by go_num, rfl, HO5.out, HB5.out⟩
          case measure => simp [intOf]; omega
    · have hke : k = l.length := by omega
      subst hke
      have HF : Hid (wr.ownsRow W.heap.size 80 2 (.slice (some ⟨g, 0, none⟩) l.length cap) l.length (labCells l)) := by
        have h := HO.out
        rw [List.take_length] at h; exact h
      clear HO
      go_wp2
      go_ret
      exact ⟨_, rfl, HF.out, HB.out⟩
end Go.Proofs.YtamcclcbmenjdaaGreatDoor

/- A series as it is compared: by its labels. -/
namespace Go.Proofs.YtamcclcbmenjdaaGreatDoor
open Go.RowKit Go.Lib

def ElR (w : World) (x : Ser) (c0 c1 : Value) : Prop := LabelsAt w w.heap.size c0 x.1 ∧ SamplesAt w w.heap.size c1 x.2
def SmR (x : Ser) : Prop := x.1.length ≤ 10000000000000
theorem BatchAt.head {w : World} {v : Value} {x : Ser} {r : List Ser} (h : BatchAt w w.heap.size v (x :: r)) : ∃ b o k a0 a1, v = .slice (some ⟨b, o, none⟩) (r.length + 1) k ∧ b < w.heap.size ∧ w.cell? ⟨b, o, none⟩ = some a0 ∧ w.cell? ⟨b, o + 1, none⟩ = some a1 ∧ ElR w x a0 a1 := by
  obtain ⟨a, cap, rfl, _, h2⟩ := h
  rcases h2 with h2 | ⟨b, o, rfl, hb, hc⟩
  · cases h2
  · obtain ⟨lv, sv, c0, c1, hl, hs⟩ := hc 0 x rfl
    simp only [Nat.zero_mul, Nat.add_zero] at c0 c1
    exact ⟨b, o, cap, lv, sv, rfl, hb, c0, c1, hl, hs⟩
set_option maxRecDepth 100000 in
set_option maxHeartbeats 400000 in
theorem cmpR_any (x y : Ser) (a0 a1 d0 d1 : Value) (w0 w : World) (h1 : ElR w0 x a0 a1) (h2 : ElR w0 y d0 d1) (hk : ∀ k, k < w0.heap.size → w.heap[k]? = w0.heap[k]?) (hs : w0.heap.size ≤ w.heap.size) (h3 : SmR x) (_ : SmR y) :
    Calls Tryz.prog 115 #[.agg #[a0, a1], .agg #[d0, d1]] w fun e w' => e = .returned (.int .i64 (cmpS x y)) ∧ Below w.heap.size w w' := by
  obtain ⟨la1, lc1, rfl, -⟩ := id h1.1
  obtain ⟨sa1, sc1, rfl, -⟩ := id h1.2
  obtain ⟨la2, lc2, rfl, -⟩ := id h2.1
  obtain ⟨sa2, sc2, rfl, -⟩ := id h2.2
  have C : Hid (∀ W2 : World, Below w.heap.size w W2 → Calls Tryz.prog 129 #[.slice la1 x.1.length lc1, .slice la2 y.1.length lc2] W2 fun e w' => e = .returned (.int .i64 (cmpLabs x.1 y.1)) ∧ Below W2.heap.size W2 w') := fun W2 hW => by
    have hb : ∀ k, k < w0.heap.size → W2.heap[k]? = w0.heap[k]? := fun k hk' => (hW.block k (by omega)).trans (hk k hk')
    exact compareFunc_any w0.heap.size _ _ x.1 y.1 W2 (h1.1.kept hb) (h2.1.kept hb) (Nat.le_trans hs hW.size) h3
  clear h1 h2 hk
  go_enter Tryz.func115, Tryz.ntmps115
  go_wp2_with fail
  refine (C.out _ ?_).mono ?_
  · exact ((Below.refl _ _).alloc (Nat.le_refl _) _).alloc (by simp) _
  rintro e w2 ⟨rfl, hb2⟩
  have HB : Hid (Below w.heap.size w w2) := (((Below.refl _ _).alloc (Nat.le_refl _) _).alloc (by simp) _).trans (hb2.mono (by simp; omega))
  clear hb2 C
  go_wp2
  go_ret
  exact ⟨rfl, HB.out⟩
end Go.Proofs.YtamcclcbmenjdaaGreatDoor

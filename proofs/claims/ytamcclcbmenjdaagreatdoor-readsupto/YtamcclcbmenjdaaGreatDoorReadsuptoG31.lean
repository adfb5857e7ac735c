/- 'choirlaw.Reads', for any list of texts of bulk at most 1048576: Decode answers the document's batch or error, one behind the other; lists that came out are their owner's own. The second form's statement and its card: its only condition is the row's own bound on the argument's bulk. -/
import Derived.Test.YtamcclcbmenjdaaGreatDoorReadsuptoG30
import Derived.Test.YtamcclcbmenjdaaGreatDoorReadsuptoG14
/- The law's book: keep. -/
namespace Go.Proofs.YtamcclcbmenjdaaGreatDoor
open Go.RowKit Go.Lib

theorem Tryz.infoLabs : (Tryz.prog.info? 36).map (fun i => (i.zero, i.size, i.bytes)) = some (some (.slice none 0 0), 1, 24) := by kernel_rfl
theorem Tryz.infoSams3 : (Tryz.prog.info? 35).map (fun i => (i.zero, i.size, i.bytes)) = some (some (.slice none 0 0), 1, 24) := by kernel_rfl
theorem Tryz.infoSers3 : (Tryz.prog.info? 39).map (fun i => (i.zero, i.size, i.bytes)) = some (some (.slice none 0 0), 1, 24) := by kernel_rfl
theorem ownsRow_some2 {base size : Nat} {w : World} {e : TypeId} {v : Value} {n : Nat} {xs : List Value} (h : w.ownsRow base e size v n xs) (hn : 0 < n) : ∃ g cap, v = .slice (some ⟨g, 0, none⟩) n cap ∧ base ≤ g := by
  rcases h.2 with ⟨_, h0⟩ | ⟨g, cap, cur, hv, hb, _⟩
  · omega
  · exact ⟨g, cap, hv, hb⟩
theorem keep_rep {w w' : World} {base e n m : Nat} {c d : Value} (h : ∀ (base' : Nat) (u : Value) (N : Nat), N ≤ n + m → w.ownsRow base' e 2 u N ((rep n c d ++ rep m c d).take (N * 2)) → w'.ownsRow base' e 2 u N ((rep n c d ++ rep m c d).take (N * 2))) {u : Value} {N : Nat} (hN : N ≤ n + m) (hu : w.ownsRow base e 2 u N (rep N c d)) : w'.ownsRow base e 2 u N (rep N c d) := by
  have h1 := h base u N hN
  rw [rep_add, rep_take c d hN] at h1
  exact h1 hu
theorem rep_one {n : Nat} {c d : Value} (hc : c.oneCell' = true) (hd : d.oneCell' = true) : ∀ u ∈ rep n c d, u.oneCell' = true := fun u hu => by
  obtain ⟨p, hp, hu⟩ := List.mem_flatMap.1 hu
  rw [(List.mem_replicate.1 hp).2] at hu
  exact one_two hc hd u hu
theorem box_cells {w : World} {xb T : Nat} {c d : Value} (h : w.heap[xb]? = some (.cells #[c, d] T)) : w.cell? ⟨xb, 0, none⟩ = some c ∧ w.cell? ⟨xb, 1, none⟩ = some d ∧ xb < w.heap.size :=
  ⟨cell_of_row w xb 0 _ _ (0, 0) h, cell_of_row w xb 1 _ _ (0, 0) h, (Array.getElem?_eq_some_iff.1 h).1⟩
/-- But for G, what was there in w is as it was. -/
def Far (w W : World) (G : Nat → Prop) : Prop := w.heap.size ≤ W.heap.size ∧ ∀ k, k < w.heap.size → ¬ G k → W.heap[k]? = w.heap[k]?
theorem Far.refl (w : World) (G : Nat → Prop) : Far w w G := ⟨Nat.le_refl _, fun _ _ _ => rfl⟩
theorem Far.grown {w W W' : World} {G : Nat → Prop} {g : Option Nat} (h : Far w W G) (hg : W.grownBy W' g) (hn : ∀ k, g = some k → k < w.heap.size → G k) : Far w W' G :=
  ⟨Nat.le_trans h.1 hg.size, fun k hk hG => (hg.block k (Nat.lt_of_lt_of_le hk h.1) (fun e => hG (hn k e.symm hk))).trans (h.2 k hk hG)⟩
theorem Far.alloc {w W : World} {G : Nat → Prop} (h : Far w W G) (o : Obj) : Far w (W.alloc o) G := h.grown (grown_alloc W o) (fun _ e => by cases e)
theorem Far.set {w W : World} {G : Nat → Prop} (h : Far w W G) {kb : Nat} (hk : G kb) (i : Nat) (v : Value) : Far w (W.setCell ⟨kb, i, none⟩ v) G :=
  ⟨by simpa using h.1, fun k hk2 hG => (Below.heap_setCell W ⟨kb, i, none⟩ v k (fun e => hG (by rw [e]; exact hk))).trans (h.2 k hk2 hG)⟩
/-- Blocks of series i and later, and of the batch itself. -/
def Un (bv : Value) (vals : List (Value × Value)) (i k : Nat) : Prop := bv.ownBlock = some k ∨ ∃ j p, i ≤ j ∧ vals[j]? = some p ∧ (p.1.ownBlock = some k ∨ p.2.ownBlock = some k)
/-- The loop's state. -/
structure KL (w W : World) (B base kb : Nat) (K Kc : Nat → Prop) (sv lv mv bv : Value) (ns nl nm i : Nat) (vals : List (Value × Value)) (bs : List Ser) : Prop where
  st : KSt w W B base kb K Kc sv lv mv ns (nl + 4 * i) (nm + 4 * i)
  un : ∀ k, Kc k → ¬ Un bv vals i k
  len : vals.length = bs.length
  row : W.ownsRow base 38 2 bv bs.length (serCells vals)
  rows : ∀ (j : Nat) (p : Value × Value) (x : Ser), i ≤ j → vals[j]? = some p → bs[j]? = some x → W.ownsRow base 80 2 p.1 x.1.length (labCells x.1) ∧ W.ownsRow base 34 2 p.2 x.2.length (samCells x.2)
  apt : Apt vals

set_option maxRecDepth 100000 in
set_option maxHeartbeats 4000000 in
theorem keep_any (w : World) (B base kb : Nat) (K : Nat → Prop) (sv lv mv bv : Value) (ns nl nm : Nat) (bs : List Ser) (hB : Book w kb K sv lv mv ns nl nm) (hm : ns % 4 = 0 ∧ nl % 4 = 0 ∧ nm % 4 = 0) (hn : ns ≤ 100000000 ∧ nl ≤ 100000000 ∧ nm ≤ 100000000) (hF : FreshD w base bv bs) (hbs : base ≤ w.heap.size) (hbb : B ≤ base) (hK : ∀ k, K k → B ≤ k ∧ k < base) (hl : bs.length ≤ 1000000 ∧ ∀ s ∈ bs, s.1.length ≤ 1000000 ∧ s.2.length ≤ 1000000) :
    Calls Tryz.prog 37 #[.pointer (some ⟨kb, 0, none⟩), bv] w fun e w' => e = .returned (.tuple #[]) ∧ ∃ Kc sv' lv' mv', KSt w w' B base kb K Kc sv' lv' mv' (ns + 4) (nl + 4 * bs.length) (nm + 4 * bs.length) := by
  obtain ⟨i1, hi1, hy0, hy1, hy2⟩ := info_parts Tryz.infoLab
  obtain ⟨i2, hi2, hx0, hx1, hx2⟩ := info_parts Tryz.infoLabs
  obtain ⟨i3, hi3, ha0, ha1, ha2⟩ := info_parts Tryz.infoSam
  obtain ⟨i4, hi4, hq0, hq1, hq2⟩ := info_parts Tryz.infoSams3
  obtain ⟨i5, hi5, hr0, hr1, hr2⟩ := info_parts Tryz.infoSer
  obtain ⟨i6, hi6, hu0, hu1, hu2⟩ := info_parts Tryz.infoSers3
  obtain ⟨vals, hrow, hSers, hapt⟩ := hF
  obtain ⟨ba, bc, rfl⟩ := own_shape hrow
  have hK0 : KL w w B base kb K K sv lv mv (.slice ba bs.length bc) ns nl nm 0 vals bs := by
    refine ⟨⟨Below.refl _ _, fun _ _ _ => rfl, fun k hk => .inl hk, hbs, hbb, hB, fun k hk => (hK k hk).1⟩, fun k hk hU => ?_, hSers.1, hrow, fun j p x _ hp hx => hSers.2 j p x hp hx, hapt⟩
    have hkb := (hK k hk).2
    rcases hU with e | ⟨j, p, _, hp, e | e⟩
    · have := (World.ownsRow.lt hrow k e).1; omega
    · obtain ⟨x, hx⟩ : ∃ x, bs[j]? = some x := ⟨_, List.getElem?_eq_getElem (by rw [← hSers.1]; exact (List.getElem?_eq_some_iff.1 hp).1)⟩
      have := (World.ownsRow.lt (hSers.2 j p x hp hx).1 k e).1; omega
    · obtain ⟨x, hx⟩ : ∃ x, bs[j]? = some x := ⟨_, List.getElem?_eq_getElem (by rw [← hSers.1]; exact (List.getElem?_eq_some_iff.1 hp).1)⟩
      have := (World.ownsRow.lt (hSers.2 j p x hp hx).2 k e).1; omega
  have H0 := hide hK0
  have hll := hl.1
  have HL := hide hl.2
  obtain ⟨hm1, hm2, hm3⟩ := hm
  obtain ⟨hn1, hn2, hn3⟩ := hn
  clear hK0 hrow hSers hapt hB hK hl
  go_enter Tryz.func37, Tryz.ntmps37
  go_wp2
  go_loopw [4, 5, 6, 7, 8, 9, 10, 11, 12, 13, 14, 15, 16] (fun i _ _ _ _ _ _ _ _ _ _ _ _ wr => ∃ (q : Nat) (Kc : Nat → Prop) (lv mv : Value), q ≤ bs.length ∧ i = .int .i64 q ∧ Hid (KL w wr B base kb K Kc sv lv mv (.slice ba bs.length bc) ns nl nm q vals bs)) (fun i _ _ _ _ _ _ _ _ _ _ _ _ _ => bs.length - (intOf i).toNat)
  case atStart => exact ⟨0, K, lv, mv, Nat.zero_le _, rfl, H0.out⟩
  case round =>
    clear H0
    obtain ⟨q, Kc, lv, mv, hq, rfl, H⟩ := hrel
    by_cases hlt : q < bs.length
    · obtain ⟨⟨ll, sl⟩, hx⟩ : ∃ x, bs[q]? = some x := ⟨_, List.getElem?_eq_getElem hlt⟩
      obtain ⟨⟨pl, ps⟩, hp⟩ : ∃ p, vals[q]? = some p := ⟨_, List.getElem?_eq_getElem (by rw [H.out.len]; exact hlt)⟩
      obtain ⟨hlr, hsr⟩ := H.out.rows q _ _ (Nat.le_refl _) hp hx
      have hsz := HL.out _ (List.mem_of_getElem? hx)
      obtain ⟨gb, cb, hbv, _⟩ := ownsRow_some2 H.out.row (by omega)
      cases hbv
      have c0 := own_cell H.out.row (serCells_get hp).1
      have c1 := own_cell H.out.row (serCells_get hp).2
      obtain ⟨d0, d1, d2, d3, hkb⟩ := H.out.st.book.cells
      obtain ⟨lva, lvc, rfl⟩ := H.out.st.book.lab.shape
      obtain ⟨mva, mvc, rfl⟩ := H.out.st.book.sam.shape
      obtain ⟨pla, plc, rfl⟩ := own_shape hlr
      obtain ⟨psa, psc, rfl⟩ := own_shape hsr
      have hgb := (World.ownsRow.lt H.out.row gb rfl).2
      have hst := H.out.st
      generalize hN : nl + 4 * q = N at *
      generalize hM : nm + 4 * q = M at *
      have hNb : N ≤ 200000000 := by omega
      have hMb : M ≤ 200000000 := by omega
      have hN4 : N % 4 = 0 := by omega
      have hM4 : M % 4 = 0 := by omega
      have C := hide (mark_any N wr (by omega))
      have HSt0 := hide hst
      have HLr := hide hlr
      have HSr := hide hsr
      have HP := hide hp
      have HN : Hid (nl + 4 * q = N ∧ nm + 4 * q = M) := ⟨hN, hM⟩
      simp only at c0 c1 hsz
      clear hx hp hlr hsr hst hN hM
      go_wp2_with fail
      refine C.out.mono ?_
      rintro e w2 ⟨rfl, hb2⟩
      obtain ⟨G, hG⟩ : ∃ G : Nat → Prop, G = fun k => (Value.slice pla ll.length plc).ownBlock = some k ∨ k = kb ∨ (Value.slice lva N lvc).ownBlock = some k := ⟨_, rfl⟩
      have HG := hide hG
      clear hG
      have hg2 := grown_of_below hb2
      have HSt : Hid (KSt w (w2.alloc (.cells #[.string (markT N), .string ByteArray.empty] 80)) B base kb K Kc sv (.slice lva N lvc) (.slice mva M mvc) ns N M) := (HSt0.out.write hg2 (fun _ e => by cases e)).alloc _
      have HFar : Hid (Far wr (w2.alloc (.cells #[.string (markT N), .string ByteArray.empty] 80)) G) := ((Far.refl wr G).grown hg2 (fun _ e => by cases e)).alloc _
      have HGlt : Hid (∀ k, (Value.slice pla ll.length plc).ownBlock = some k → base ≤ k ∧ k < wr.heap.size) := fun k e => World.ownsRow.lt HLr.out k e
      have HGK : Hid (∀ k, (Value.slice pla ll.length plc).ownBlock = some k → ¬ Kc k) := fun k e hk => H.out.un k hk (.inr ⟨q, _, Nat.le_refl _, HP.out, .inl e⟩)
      have HGG : Hid (∀ k, (Value.slice pla ll.length plc).ownBlock = some k → G k) := fun k e => by rw [HG.out]; exact .inl e
      have HGL : Hid (∀ k, (Value.slice lva N lvc).ownBlock = some k → G k) := fun k e => by rw [HG.out]; exact .inr (.inr e)
      have HGk : Hid (G kb) := by rw [HG.out]; exact .inr (.inl rfl)
      have HBs : Hid (base ≤ wr.heap.size) := HSt0.out.size
      have HPl : Hid ((labP ll).length = ll.length) := hide (by simp [labP])
      have HRow : Hid ((w2.alloc (.cells #[.string (markT N), .string ByteArray.empty] 80)).ownsRow base 80 2 (.slice pla ll.length plc) ll.length (serCells (labP ll))) := by
        rw [labP_cells]
        exact own_alloc (own_kept HLr.out fun k e => hb2.block k (HGlt.out k e).2) _
      have HBox : Hid ((w2.alloc (.cells #[.string (markT N), .string ByteArray.empty] 80)).heap[w2.heap.size]? = some (.cells #[.string (markT N), .string ByteArray.empty] 80)) := heap_alloc_new w2 _
      have hs2 := hb2.size
      clear C hb2 hg2 HSt0
      go_wp2
      generalize w2.heap.size = xb at *
      obtain ⟨W0, hW0⟩ : ∃ W0, W0 = wr := ⟨_, rfl⟩
      rw [← hW0] at HFar hs2 HGlt HBs H HLr HSr c1 hgb
      go_loopw [7] (fun i W => ∃ j : Nat, j ≤ ll.length ∧ i = .int .i64 j ∧ Hid (KSt w W B base kb K Kc sv (.slice lva N lvc) (.slice mva M mvc) ns N M) ∧ Hid (Far W0 W G) ∧ Hid (W.ownsRow base 80 2 (Value.slice pla ll.length plc) ll.length (serCells (mixP (.string (markT N)) (.string ByteArray.empty) (labP ll) j))) ∧ Hid (W.heap[xb]? = some (.cells #[(.string (markT N)), (.string ByteArray.empty)] 80))) (fun i _ => ll.length - (intOf i).toNat)
      case atStart => exact ⟨0, Nat.zero_le _, rfl, HSt.out, HFar.out, HRow.out, HBox.out⟩
      case round =>
        clear HSt HFar HRow HBox
        obtain ⟨j, hj, rfl, HSt, HFar, HRow, HBox⟩ := hrel
        obtain ⟨x0, x1, hxb⟩ := box_cells HBox.out
        by_cases hjl : j < ll.length
        · obtain ⟨gl, cl, hv, hgl⟩ := ownsRow_some2 HRow.out (by omega)
          cases hv
          have f0 := HRow.out.frozenAt (j * 2)
          have hmg := serCells_get (mixP_get (c := (.string (markT N))) (d := (.string ByteArray.empty)) (ps := labP ll) (j := j) (by rw [HPl.out]; exact hjl))
          have q0 := own_cell HRow.out hmg.1
          have hs1 := (HRow.out.stored (j * 2) (.string (markT N))).1
          have q1 := own_cell hs1 (j := j * 2 + 1) (by rw [List.getElem?_set_ne (by omega)]; exact hmg.2)
          have f1 := hs1.frozenAt (j * 2 + 1)
          clear hmg hs1
          have hgx : ¬ xb = gl := fun e => by have := (HGlt.out gl rfl).2; omega
          have hms := mix_stored (c := (.string (markT N))) (d := (.string ByteArray.empty)) (ps := labP ll) (j := j) (g := gl) (base := base) (e := 80) (w := wr) (by rw [HPl.out]; exact hjl) (by rw [HPl.out]; exact HRow.out)
          rw [HPl.out] at hms
          have HRow2 := hide hms.1
          have HSt2 := hide (HSt.out.write hms.2 (fun k e => by cases e; exact ⟨(HGlt.out gl rfl).1, HGK.out gl rfl⟩))
          have HFar2 := hide (HFar.out.grown hms.2 (fun k e _ => by cases e; exact HGG.out gl rfl))
          have HBox2 : Hid (((wr.setCell ⟨gl, j * 2, none⟩ (.string (markT N))).setCell ⟨gl, j * 2 + 1, none⟩ (.string ByteArray.empty)).heap[xb]? = some (.cells #[(.string (markT N)), (.string ByteArray.empty)] 80)) := (hms.2.block xb hxb (fun e => hgx (Option.some.inj e))).trans HBox.out
          clear hms HSt HFar HRow HBox
          go_wp2
          go_roundw
          case rel => exact ⟨j + 1, by omega, by go_num, HSt2.out, HFar2.out, HRow2.out, HBox2.out⟩
          case measure => simp [intOf]; omega
        · obtain rfl : j = ll.length := by omega
          have HR0 : Hid (wr.ownsRow base 80 2 (Value.slice pla ll.length plc) ll.length (rep ll.length (.string (markT N)) (.string ByteArray.empty))) := by
            have h := HRow.out
            rw [← HPl.out, mixP_end, HPl.out] at h
            exact h
          have hsw := HFar.out.1
          clear HRow
          have hbsz := HSt.out.size
          have HW0 : Hid (∀ k, (Value.slice pla ll.length plc).ownBlock = some k → k < wr.heap.size) := fun k e => (World.ownsRow.lt HR0.out k e).2
          go_wp2_with (first | (at_builtin; refine wpList_append_keeps _ rfl (.tmp 50) (.tmp 52) 36 rfl base 80 i1 (.agg #[.string ByteArray.empty, .string ByteArray.empty]) 2 32 Tryz.underlying36 hi1 hy0 hy1 hy2 rfl (by decide) (Value.slice pla ll.length plc) ll.length (rep ll.length (.string (markT N)) (.string ByteArray.empty)) rfl (own_alloc HR0.out _) ⟨wr.heap.size, 0, none⟩ 1 1 (rep 1 (.string (markT N)) (.string ByteArray.empty)) rfl rfl (cells_new wr [(.string (markT N)), (.string ByteArray.empty)] 80) (rep_one rfl rfl) (by unfold maxLen; omega) (by omega) (by simp; omega) ?_) | fail)
          intro l1 w5 ho5 hg5 hh5 hk5
          have hs5 : wr.heap.size + 1 ≤ w5.heap.size := by have := hg5.size; simpa using this
          have HR5 := hide (keep_rep hk5 (N := ll.length) (by omega) (own_alloc HR0.out _))
          have HO1 : Hid (w5.ownsRow base 80 2 l1 (ll.length + 1) (rep (ll.length + 1) (.string (markT N)) (.string ByteArray.empty))) := by rw [← rep_add]; exact ho5
          have HSt5 := hide ((HSt.out.alloc _).write hg5 (fun k e => ⟨(HGlt.out k e).1, HGK.out k e⟩))
          have HFar5 := hide ((HFar.out.alloc _).grown hg5 (fun k e _ => HGG.out k e))
          have HBox5 : Hid (w5.heap[xb]? = some (.cells #[(.string (markT N)), (.string ByteArray.empty)] 80)) := (hg5.block xb (by simp; omega) (fun e => by have := (HGlt.out xb e.symm).2; omega)).trans ((heap_alloc_old wr _ hxb).trans HBox.out)
          have HB1 : Hid (∀ k, l1.ownBlock = some k → (Value.slice pla ll.length plc).ownBlock = some k ∨ wr.heap.size ≤ k) := fun k e => by
            rcases hh5 with h | ⟨b, h, hb⟩
            · exact .inl (by rw [← h]; exact e)
            · rw [h] at e; cases e; exact .inr (by simp at hb; omega)
          obtain ⟨a1, k1, rfl⟩ := own_shape HO1.out
          obtain ⟨y0, y1, hyb⟩ := box_cells HBox5.out
          clear ho5 hg5 hh5 hk5 HR0 HBox HSt HFar x0 x1
          go_wp2_with (first | (at_builtin; refine wpList_append_keeps _ rfl (.tmp 54) (.tmp 57) 36 rfl base 80 i1 (.agg #[.string ByteArray.empty, .string ByteArray.empty]) 2 32 Tryz.underlying36 hi1 hy0 hy1 hy2 rfl (by decide) (Value.slice pla ll.length plc) ll.length (rep ll.length (.string (markT N)) (.string ByteArray.empty)) rfl (own_alloc HR5.out _) ⟨w5.heap.size, 0, none⟩ 2 2 (rep 2 (.string (markT N)) (.string ByteArray.empty)) rfl rfl (cells_new w5 [(.string (markT N)), (.string ByteArray.empty), (.string (markT N)), (.string ByteArray.empty)] 80) (rep_one rfl rfl) (by unfold maxLen; omega) (by omega) (by simp; omega) ?_) | fail)
          intro l2 w6 ho6 hg6 hh6 hk6
          have hs6 : w5.heap.size + 1 ≤ w6.heap.size := by have := hg6.size; simpa using this
          have HR6 := hide (keep_rep hk6 (N := ll.length) (by omega) (own_alloc HR5.out _))
          have HP1 := hide (keep_rep hk6 (N := ll.length + 1) (by omega) (own_alloc HO1.out _))
          have HO2 : Hid (w6.ownsRow base 80 2 l2 (ll.length + 2) (rep (ll.length + 2) (.string (markT N)) (.string ByteArray.empty))) := by rw [← rep_add]; exact ho6
          have HSt6 := hide ((HSt5.out.alloc _).write hg6 (fun k e => ⟨(HGlt.out k e).1, HGK.out k e⟩))
          have HFar6 := hide ((HFar5.out.alloc _).grown hg6 (fun k e _ => HGG.out k e))
          have HBox6 : Hid (w6.heap[xb]? = some (.cells #[(.string (markT N)), (.string ByteArray.empty)] 80)) := (hg6.block xb (by simp; omega) (fun e => by have := (HGlt.out xb e.symm).2; omega)).trans ((heap_alloc_old w5 _ hyb).trans HBox5.out)
          have HB2 : Hid (∀ k, l2.ownBlock = some k → (Value.slice pla ll.length plc).ownBlock = some k ∨ wr.heap.size ≤ k) := fun k e => by
            rcases hh6 with h | ⟨b, h, hb⟩
            · exact .inl (by rw [← h]; exact e)
            · rw [h] at e; cases e; exact .inr (by simp at hb; omega)
          obtain ⟨a2, k2, rfl⟩ := own_shape HO2.out
          obtain ⟨z0, z1, hzb⟩ := box_cells HBox6.out
          clear ho6 hg6 hh6 hk6 HR5 HBox5 HSt5 HFar5 HO1 y0 y1
          go_wp2_with (first | (at_builtin; refine wpList_append_keeps _ rfl (.tmp 59) (.tmp 63) 36 rfl base 80 i1 (.agg #[.string ByteArray.empty, .string ByteArray.empty]) 2 32 Tryz.underlying36 hi1 hy0 hy1 hy2 rfl (by decide) (Value.slice pla ll.length plc) ll.length (rep ll.length (.string (markT N)) (.string ByteArray.empty)) rfl (own_alloc HR6.out _) ⟨w6.heap.size, 0, none⟩ 3 3 (rep 3 (.string (markT N)) (.string ByteArray.empty)) rfl rfl (cells_new w6 [(.string (markT N)), (.string ByteArray.empty), (.string (markT N)), (.string ByteArray.empty), (.string (markT N)), (.string ByteArray.empty)] 80) (rep_one rfl rfl) (by unfold maxLen; omega) (by omega) (by simp; omega) ?_) | fail)
          intro l3 w7 ho7 hg7 hh7 hk7
          have hs7 : w6.heap.size + 1 ≤ w7.heap.size := by have := hg7.size; simpa using this
          have HR7 := hide (keep_rep hk7 (N := ll.length) (by omega) (own_alloc HR6.out _))
          have HQ1 := hide (keep_rep hk7 (N := ll.length + 1) (by omega) (own_alloc HP1.out _))
          have HQ2 := hide (keep_rep hk7 (N := ll.length + 2) (by omega) (own_alloc HO2.out _))
          have HO3 : Hid (w7.ownsRow base 80 2 l3 (ll.length + 3) (rep (ll.length + 3) (.string (markT N)) (.string ByteArray.empty))) := by rw [← rep_add]; exact ho7
          have HSt7 := hide ((HSt6.out.alloc _).write hg7 (fun k e => ⟨(HGlt.out k e).1, HGK.out k e⟩))
          have HFar7 := hide ((HFar6.out.alloc _).grown hg7 (fun k e _ => HGG.out k e))
          have HB3 : Hid (∀ k, l3.ownBlock = some k → (Value.slice pla ll.length plc).ownBlock = some k ∨ wr.heap.size ≤ k) := fun k e => by
            rcases hh7 with h | ⟨b, h, hb⟩
            · exact .inl (by rw [← h]; exact e)
            · rw [h] at e; cases e; exact .inr (by simp at hb; omega)
          obtain ⟨a3, k3, rfl⟩ := own_shape HO3.out
          clear ho7 hg7 hh7 hk7 HR6 HBox6 HSt6 HFar6 HO2 HP1 z0 z1
          have HSa := hide (HSt7.out.alloc (.cells #[(Value.slice pla ll.length plc), .slice a1 (ll.length + 1) k1, .slice a2 (ll.length + 2) k2, .slice a3 (ll.length + 3) k3] 36))
          obtain ⟨lvals, lo, lin, lp⟩ := HSa.out.book.lab
          obtain ⟨e0, e1, e2, e3, hekb⟩ := HSt7.out.book.cells
          have HLo := hide lo
          have HLin := hide lin
          have HLp := hide lp
          have hkl : ((Value.slice lva N lvc)).ownBlock ≠ some kb := kb_types HSa.out.book.blk lo (by decide)
          clear lo lin lp
          go_wp2_with (first | (at_builtin; refine wpList_append_heir _ rfl (.tmp 69) (.tmp 74) 25 rfl 0 36 i2 (.slice none 0 0) 1 24 Tryz.underlying25 hi2 hx0 hx1 hx2 rfl (by decide) (Value.slice lva N lvc) N lvals rfl HLo.out ⟨w7.heap.size, 0, none⟩ 4 4 [(Value.slice pla ll.length plc), .slice a1 (ll.length + 1) k1, .slice a2 (ll.length + 2) k2, .slice a3 (ll.length + 3) k3] rfl rfl (cells_new w7 _ _) (by intro u hu; simp only [List.mem_cons, List.not_mem_nil, or_false] at hu; rcases hu with rfl | rfl | rfl | rfl <;> rfl) (by unfold maxLen; omega) (by omega) (Nat.zero_le _) ?_) | fail)
          intro nv w8 ho8 hg8 hh8
          have hs8 : w7.heap.size + 1 ≤ w8.heap.size := by have := hg8.size; simpa using this
          have hb8 : w8.heap[kb]? = some (.cells #[sv, .slice lva N lvc, .slice mva M mvc, .slice none 0 0] 29) := (hg8.block kb (by simp; omega) (fun e => hkl e.symm)).trans HSa.out.book.blk
          have g1 : w8.cell? ⟨kb, 1, none⟩ = some (Value.slice lva N lvc) := cell_of_row w8 kb 1 _ _ (0, 0) hb8
          have g2 : w8.frozen? ⟨kb, 1, none⟩ = false := frozen_of_row w8 kb 1 _ _ hb8
          obtain ⟨KN, hKN⟩ : ∃ KN : Nat → Prop, KN = fun k => Kc k ∨ (Value.slice pla ll.length plc).ownBlock = some k ∨ (W0.heap.size ≤ k ∧ k < w8.heap.size) := ⟨_, rfl⟩
          have HKN := hide hKN
          clear hKN
          have hwr : W0.heap.size ≤ wr.heap.size := by omega
          have HIn : Hid (∀ u, (∀ k, u.ownBlock = some k → (Value.slice pla ll.length plc).ownBlock = some k ∨ wr.heap.size ≤ k) → (∀ k, u.ownBlock = some k → k < w8.heap.size) → In KN u) := fun u h1 h2 k e => by
            rw [HKN.out]
            rcases h1 k e with h | h
            · exact .inr (.inl h)
            · exact .inr (.inr ⟨by omega, h2 k e⟩)
          have HSt9 := hide (HSa.out.addLab (Kc' := KN) HLo.out HLin.out HLp.out hN4 rfl hg8 ho8 (fun k hk => by rw [HKN.out]; exact .inl hk) (fun k e => by
              rcases hh8 with h | ⟨b, h, hb⟩
              · rw [HKN.out]; exact .inl (HLin.out k (by rw [← h]; exact e))
              · have hlt := (World.ownsRow.lt ho8 k e).2
                rw [h] at e; cases e
                rw [HKN.out]; exact .inr (.inr ⟨by simp at hb; omega, hlt⟩)) (fun u hu => by
              have hs : ∀ (v : Value) (n : Nat) (xs : List Value), w7.ownsRow base 80 2 v n xs → ∀ k, v.ownBlock = some k → k < w8.heap.size := fun v n xs h k e => by have := (World.ownsRow.lt h k e).2; omega
              simp only [List.mem_cons, List.not_mem_nil, or_false] at hu
              rcases hu with rfl | rfl | rfl | rfl
              · exact ⟨⟨_, own_mono (own_alloc HR7.out _) (Nat.zero_le _)⟩, HIn.out _ (fun k e => .inl e) (hs _ _ _ HR7.out)⟩
              · exact ⟨⟨_, own_mono (own_alloc HQ1.out _) (Nat.zero_le _)⟩, HIn.out _ HB1.out (hs _ _ _ HQ1.out)⟩
              · exact ⟨⟨_, own_mono (own_alloc HQ2.out _) (Nat.zero_le _)⟩, HIn.out _ HB2.out (hs _ _ _ HQ2.out)⟩
              · exact ⟨⟨_, own_mono (own_alloc HO3.out _) (Nat.zero_le _)⟩, HIn.out _ HB3.out (hs _ _ _ HO3.out)⟩) (fun k hk => by
              rw [HKN.out] at hk
              rcases hk with hk | hk | hk
              · exact HSa.out.sub k hk
              · exact .inr (HGlt.out k hk).1
              · exact .inr (by have := HBs.out; omega)) (fun k hk => by
              rw [HKN.out] at hk
              rcases hk with hk | hk | hk
              · have := HSa.out.book.lt k hk; simp at this; omega
              · have := (World.ownsRow.lt HR7.out k hk).2; omega
              · exact hk.2))
          have HFar9 := hide (((HFar7.out.alloc _).grown hg8 (fun k e _ => HGL.out k e)).set HGk.out 1 nv)
          obtain ⟨nva, nvc, rfl⟩ := own_shape ho8
          clear ho8 hg8 hh8 hb8 HSa HLo HLin HLp HSt7 HFar7 HR7 HQ1 HQ2 HO3 HB1 HB2 HB3 HIn
          have hXs : (w8.setCell ⟨kb, 1, none⟩ (.slice nva (N + 4) nvc)).heap.size = w8.heap.size := by simp
          have HT1 : Hid (∀ (b e s : Nat) (u : Value) (n : Nat) (xs : List Value), W0.ownsRow b e s u n xs → (e = 80 → Aside u (.slice pla ll.length plc)) → e ≠ 29 → e ≠ 36 → ∀ k, u.ownBlock = some k → ¬ G k) := fun b e s u n xs hu h1 h2 h3 k ek hGk => by
            rw [HG.out] at hGk
            rcases hGk with h | h | h
            · by_cases he : e = 80
              · exact h1 he k ek h
              · exact own_types hu HLr.out he k ek h
            · exact kb_types H.out.st.book.blk hu h2 (by rw [ek, h])
            · obtain ⟨_, lo, _⟩ := H.out.st.book.lab
              exact own_types hu lo h3 k ek (by rw [← h])
          have hgbF : (w8.setCell ⟨kb, 1, none⟩ (.slice nva (N + 4) nvc)).heap[gb]? = W0.heap[gb]? := HFar9.out.2 gb hgb (HT1.out _ _ _ _ _ _ H.out.row (fun h => by cases h) (by decide) (by decide) gb rfl)
          have c2 := (World.cell?_of_block (a := ⟨gb, q * 2 + 1, none⟩) hgbF).trans c1
          obtain ⟨t0, t1, t2, t3, htkb⟩ := HSt9.out.book.cells
          have HSr9 : Hid ((w8.setCell ⟨kb, 1, none⟩ (.slice nva (N + 4) nvc)).ownsRow base 34 2 (.slice psa sl.length psc) sl.length (samCells sl)) := own_kept HSr.out fun k e => HFar9.out.2 k (World.ownsRow.lt HSr.out k e).2 (HT1.out _ _ _ _ _ _ HSr.out (fun h => by cases h) (by decide) (by decide) k e)
          have HLtP := hide HGlt.out
          have HKP : Hid (∀ k, (Value.slice pla ll.length plc).ownBlock = some k → ¬ Kc k) := HGK.out
          obtain ⟨G2, hG2⟩ : ∃ G2 : Nat → Prop, G2 = fun k => G k ∨ (Value.slice psa sl.length psc).ownBlock = some k ∨ (Value.slice mva M mvc).ownBlock = some k := ⟨_, rfl⟩
          have HG2 := hide hG2
          clear hG2
          have HKb2 : Hid (G2 kb) := by rw [HG2.out]; exact .inl HGk.out
          clear HGlt HGK HGG HGL HGk HPl
          have HGlt : Hid (∀ k, (Value.slice psa sl.length psc).ownBlock = some k → base ≤ k ∧ k < W0.heap.size) := fun k e => World.ownsRow.lt HSr.out k e
          have HGK : Hid (∀ k, (Value.slice psa sl.length psc).ownBlock = some k → ¬ KN k) := fun k e hk => by
            rw [HKN.out] at hk
            rcases hk with hk | hk | hk
            · exact H.out.un k hk (.inr ⟨q, _, Nat.le_refl _, HP.out, .inr e⟩)
            · exact own_types HSr.out HLr.out (by decide) k e hk
            · have := (HGlt.out k e).2; omega
          have HGG : Hid (∀ k, (Value.slice psa sl.length psc).ownBlock = some k → G2 k) := fun k e => by rw [HG2.out]; exact .inr (.inl e)
          have HGL : Hid (∀ k, (Value.slice mva M mvc).ownBlock = some k → G2 k) := fun k e => by rw [HG2.out]; exact .inr (.inr e)
          have HPl : Hid ((samP sl).length = sl.length) := hide (by simp [samP])
          have HSt : Hid (KSt w ((w8.setCell ⟨kb, 1, none⟩ (.slice nva (N + 4) nvc)).alloc (.cells #[.int .i64 (1000 + (M : Int)), .int .u64 0] 34)) B base kb K KN sv (.slice nva (N + 4) nvc) (.slice mva M mvc) ns (N + 4) M) := HSt9.out.alloc _
          have HFar : Hid (Far W0 ((w8.setCell ⟨kb, 1, none⟩ (.slice nva (N + 4) nvc)).alloc (.cells #[.int .i64 (1000 + (M : Int)), .int .u64 0] 34)) G2) := Far.alloc ⟨HFar9.out.1, fun k hk hG => HFar9.out.2 k hk (fun h => hG (by rw [HG2.out]; exact .inl h))⟩ _
          have HRow : Hid (((w8.setCell ⟨kb, 1, none⟩ (.slice nva (N + 4) nvc)).alloc (.cells #[.int .i64 (1000 + (M : Int)), .int .u64 0] 34)).ownsRow base 34 2 (.slice psa sl.length psc) sl.length (serCells (samP sl))) := by
            rw [samP_cells]
            exact own_alloc HSr9.out _
          have HBox : Hid (((w8.setCell ⟨kb, 1, none⟩ (.slice nva (N + 4) nvc)).alloc (.cells #[.int .i64 (1000 + (M : Int)), .int .u64 0] 34)).heap[w8.heap.size]? = some (.cells #[.int .i64 (1000 + (M : Int)), .int .u64 0] 34)) := by
            rw [← hXs]; exact heap_alloc_new _ _
          have hs9 : W0.heap.size ≤ w8.heap.size := by omega
          have HKNs : Hid (∀ k, KN k → Kc k ∨ (Value.slice pla ll.length plc).ownBlock = some k ∨ W0.heap.size ≤ k) := fun k hk => by
            rw [HKN.out] at hk
            exact hk.imp id fun h => h.imp id fun h => h.1
          clear HSt9 HFar9 HSr9 hgbF HKN hs2 e0 e1 e2 e3
          go_wp2
          generalize w8.heap.size = xb at *
          go_loopw [13] (fun i W => ∃ j : Nat, j ≤ sl.length ∧ i = .int .i64 j ∧ Hid (KSt w W B base kb K KN sv (.slice nva (N + 4) nvc) (.slice mva M mvc) ns (N + 4) M) ∧ Hid (Far W0 W G2) ∧ Hid (W.ownsRow base 34 2 (Value.slice psa sl.length psc) sl.length (serCells (mixP (.int .i64 (1000 + (M : Int))) (.int .u64 0) (samP sl) j))) ∧ Hid (W.heap[xb]? = some (.cells #[(.int .i64 (1000 + (M : Int))), (.int .u64 0)] 34))) (fun i _ => sl.length - (intOf i).toNat)
          case atStart => exact ⟨0, Nat.zero_le _, rfl, HSt.out, HFar.out, HRow.out, HBox.out⟩
          case round =>
            clear HSt HFar HRow HBox
            obtain ⟨j, hj, rfl, HSt, HFar, HRow, HBox⟩ := hrel
            obtain ⟨x0, x1, hxb⟩ := box_cells HBox.out
            by_cases hjl : j < sl.length
            · obtain ⟨gl, cl, hv, hgl⟩ := ownsRow_some2 HRow.out (by omega)
              cases hv
              have f0 := HRow.out.frozenAt (j * 2)
              have hmg := serCells_get (mixP_get (c := (.int .i64 (1000 + (M : Int)))) (d := (.int .u64 0)) (ps := samP sl) (j := j) (by rw [HPl.out]; exact hjl))
              have q0 := own_cell HRow.out hmg.1
              have hs1 := (HRow.out.stored (j * 2) (.int .i64 (1000 + (M : Int)))).1
              have q1 := own_cell hs1 (j := j * 2 + 1) (by rw [List.getElem?_set_ne (by omega)]; exact hmg.2)
              have f1 := hs1.frozenAt (j * 2 + 1)
              clear hmg hs1
              have hgx : ¬ xb = gl := fun e => by have := (HGlt.out gl rfl).2; omega
              have hms := mix_stored (c := (.int .i64 (1000 + (M : Int)))) (d := (.int .u64 0)) (ps := samP sl) (j := j) (g := gl) (base := base) (e := 34) (w := wr) (by rw [HPl.out]; exact hjl) (by rw [HPl.out]; exact HRow.out)
              rw [HPl.out] at hms
              have HRow2 := hide hms.1
              have HSt2 := hide (HSt.out.write hms.2 (fun k e => by cases e; exact ⟨(HGlt.out gl rfl).1, HGK.out gl rfl⟩))
              have HFar2 := hide (HFar.out.grown hms.2 (fun k e _ => by cases e; exact HGG.out gl rfl))
              have HBox2 : Hid (((wr.setCell ⟨gl, j * 2, none⟩ (.int .i64 (1000 + (M : Int)))).setCell ⟨gl, j * 2 + 1, none⟩ (.int .u64 0)).heap[xb]? = some (.cells #[(.int .i64 (1000 + (M : Int))), (.int .u64 0)] 34)) := (hms.2.block xb hxb (fun e => hgx (Option.some.inj e))).trans HBox.out
              clear hms HSt HFar HRow HBox
              go_wp2
              go_roundw
              case rel => exact ⟨j + 1, by omega, by go_num, HSt2.out, HFar2.out, HRow2.out, HBox2.out⟩
              case measure => simp [intOf]; omega
            · obtain rfl : j = sl.length := by omega
              have HR0 : Hid (wr.ownsRow base 34 2 (Value.slice psa sl.length psc) sl.length (rep sl.length (.int .i64 (1000 + (M : Int))) (.int .u64 0))) := by
                have h := HRow.out
                rw [← HPl.out, mixP_end, HPl.out] at h
                exact h
              have hsw := HFar.out.1
              clear HRow
              have hbsz := HSt.out.size
              have HW0 : Hid (∀ k, (Value.slice psa sl.length psc).ownBlock = some k → k < wr.heap.size) := fun k e => (World.ownsRow.lt HR0.out k e).2
              go_wp2_with (first | (at_builtin; refine wpList_append_keeps _ rfl (.tmp 100) (.tmp 102) 35 rfl base 34 i3 (.agg #[.int .i64 0, .int .u64 0]) 2 16 Tryz.underlying35 hi3 ha0 ha1 ha2 rfl (by decide) (Value.slice psa sl.length psc) sl.length (rep sl.length (.int .i64 (1000 + (M : Int))) (.int .u64 0)) rfl (own_alloc HR0.out _) ⟨wr.heap.size, 0, none⟩ 1 1 (rep 1 (.int .i64 (1000 + (M : Int))) (.int .u64 0)) rfl rfl (cells_new wr [(.int .i64 (1000 + (M : Int))), (.int .u64 0)] 34) (rep_one rfl rfl) (by unfold maxLen; omega) (by omega) (by simp; omega) ?_) | fail)
              intro l1 w5 ho5 hg5 hh5 hk5
              have hs5 : wr.heap.size + 1 ≤ w5.heap.size := by have := hg5.size; simpa using this
              have HR5 := hide (keep_rep hk5 (N := sl.length) (by omega) (own_alloc HR0.out _))
              have HO1 : Hid (w5.ownsRow base 34 2 l1 (sl.length + 1) (rep (sl.length + 1) (.int .i64 (1000 + (M : Int))) (.int .u64 0))) := by rw [← rep_add]; exact ho5
              have HSt5 := hide ((HSt.out.alloc _).write hg5 (fun k e => ⟨(HGlt.out k e).1, HGK.out k e⟩))
              have HFar5 := hide ((HFar.out.alloc _).grown hg5 (fun k e _ => HGG.out k e))
              have HBox5 : Hid (w5.heap[xb]? = some (.cells #[(.int .i64 (1000 + (M : Int))), (.int .u64 0)] 34)) := (hg5.block xb (by simp; omega) (fun e => by have := (HGlt.out xb e.symm).2; omega)).trans ((heap_alloc_old wr _ hxb).trans HBox.out)
              have HB1 : Hid (∀ k, l1.ownBlock = some k → (Value.slice psa sl.length psc).ownBlock = some k ∨ wr.heap.size ≤ k) := fun k e => by
                rcases hh5 with h | ⟨b, h, hb⟩
                · exact .inl (by rw [← h]; exact e)
                · rw [h] at e; cases e; exact .inr (by simp at hb; omega)
              obtain ⟨a1, k1, rfl⟩ := own_shape HO1.out
              obtain ⟨y0, y1, hyb⟩ := box_cells HBox5.out
              clear ho5 hg5 hh5 hk5 HR0 HBox HSt HFar x0 x1
              go_wp2_with (first | (at_builtin; refine wpList_append_keeps _ rfl (.tmp 104) (.tmp 107) 35 rfl base 34 i3 (.agg #[.int .i64 0, .int .u64 0]) 2 16 Tryz.underlying35 hi3 ha0 ha1 ha2 rfl (by decide) (Value.slice psa sl.length psc) sl.length (rep sl.length (.int .i64 (1000 + (M : Int))) (.int .u64 0)) rfl (own_alloc HR5.out _) ⟨w5.heap.size, 0, none⟩ 2 2 (rep 2 (.int .i64 (1000 + (M : Int))) (.int .u64 0)) rfl rfl (cells_new w5 [(.int .i64 (1000 + (M : Int))), (.int .u64 0), (.int .i64 (1000 + (M : Int))), (.int .u64 0)] 34) (rep_one rfl rfl) (by unfold maxLen; omega) (by omega) (by simp; omega) ?_) | fail)
              intro l2 w6 ho6 hg6 hh6 hk6
              have hs6 : w5.heap.size + 1 ≤ w6.heap.size := by have := hg6.size; simpa using this
              have HR6 := hide (keep_rep hk6 (N := sl.length) (by omega) (own_alloc HR5.out _))
              have HP1 := hide (keep_rep hk6 (N := sl.length + 1) (by omega) (own_alloc HO1.out _))
              have HO2 : Hid (w6.ownsRow base 34 2 l2 (sl.length + 2) (rep (sl.length + 2) (.int .i64 (1000 + (M : Int))) (.int .u64 0))) := by rw [← rep_add]; exact ho6
              have HSt6 := hide ((HSt5.out.alloc _).write hg6 (fun k e => ⟨(HGlt.out k e).1, HGK.out k e⟩))
              have HFar6 := hide ((HFar5.out.alloc _).grown hg6 (fun k e _ => HGG.out k e))
              have HBox6 : Hid (w6.heap[xb]? = some (.cells #[(.int .i64 (1000 + (M : Int))), (.int .u64 0)] 34)) := (hg6.block xb (by simp; omega) (fun e => by have := (HGlt.out xb e.symm).2; omega)).trans ((heap_alloc_old w5 _ hyb).trans HBox5.out)
              have HB2 : Hid (∀ k, l2.ownBlock = some k → (Value.slice psa sl.length psc).ownBlock = some k ∨ wr.heap.size ≤ k) := fun k e => by
                rcases hh6 with h | ⟨b, h, hb⟩
                · exact .inl (by rw [← h]; exact e)
                · rw [h] at e; cases e; exact .inr (by simp at hb; omega)
              obtain ⟨a2, k2, rfl⟩ := own_shape HO2.out
              obtain ⟨z0, z1, hzb⟩ := box_cells HBox6.out
              clear ho6 hg6 hh6 hk6 HR5 HBox5 HSt5 HFar5 HO1 y0 y1
              go_wp2_with (first | (at_builtin; refine wpList_append_keeps _ rfl (.tmp 109) (.tmp 113) 35 rfl base 34 i3 (.agg #[.int .i64 0, .int .u64 0]) 2 16 Tryz.underlying35 hi3 ha0 ha1 ha2 rfl (by decide) (Value.slice psa sl.length psc) sl.length (rep sl.length (.int .i64 (1000 + (M : Int))) (.int .u64 0)) rfl (own_alloc HR6.out _) ⟨w6.heap.size, 0, none⟩ 3 3 (rep 3 (.int .i64 (1000 + (M : Int))) (.int .u64 0)) rfl rfl (cells_new w6 [(.int .i64 (1000 + (M : Int))), (.int .u64 0), (.int .i64 (1000 + (M : Int))), (.int .u64 0), (.int .i64 (1000 + (M : Int))), (.int .u64 0)] 34) (rep_one rfl rfl) (by unfold maxLen; omega) (by omega) (by simp; omega) ?_) | fail)
              intro l3 w7 ho7 hg7 hh7 hk7
              have hs7 : w6.heap.size + 1 ≤ w7.heap.size := by have := hg7.size; simpa using this
              have HR7 := hide (keep_rep hk7 (N := sl.length) (by omega) (own_alloc HR6.out _))
              have HQ1 := hide (keep_rep hk7 (N := sl.length + 1) (by omega) (own_alloc HP1.out _))
              have HQ2 := hide (keep_rep hk7 (N := sl.length + 2) (by omega) (own_alloc HO2.out _))
              have HO3 : Hid (w7.ownsRow base 34 2 l3 (sl.length + 3) (rep (sl.length + 3) (.int .i64 (1000 + (M : Int))) (.int .u64 0))) := by rw [← rep_add]; exact ho7
              have HSt7 := hide ((HSt6.out.alloc _).write hg7 (fun k e => ⟨(HGlt.out k e).1, HGK.out k e⟩))
              have HFar7 := hide ((HFar6.out.alloc _).grown hg7 (fun k e _ => HGG.out k e))
              have HB3 : Hid (∀ k, l3.ownBlock = some k → (Value.slice psa sl.length psc).ownBlock = some k ∨ wr.heap.size ≤ k) := fun k e => by
                rcases hh7 with h | ⟨b, h, hb⟩
                · exact .inl (by rw [← h]; exact e)
                · rw [h] at e; cases e; exact .inr (by simp at hb; omega)
              obtain ⟨a3, k3, rfl⟩ := own_shape HO3.out
              clear ho7 hg7 hh7 hk7 HR6 HBox6 HSt6 HFar6 HO2 HP1 z0 z1
              have HSa := hide (HSt7.out.alloc (.cells #[(Value.slice psa sl.length psc), .slice a1 (sl.length + 1) k1, .slice a2 (sl.length + 2) k2, .slice a3 (sl.length + 3) k3] 35))
              obtain ⟨lvals, lo, lin, lp⟩ := HSa.out.book.sam
              obtain ⟨e0, e1, e2, e3, hekb⟩ := HSt7.out.book.cells
              have HLo := hide lo
              have HLin := hide lin
              have HLp := hide lp
              have hkl : ((Value.slice mva M mvc)).ownBlock ≠ some kb := kb_types HSa.out.book.blk lo (by decide)
              clear lo lin lp
              go_wp2_with (first | (at_builtin; refine wpList_append_heir _ rfl (.tmp 119) (.tmp 124) 26 rfl 0 35 i4 (.slice none 0 0) 1 24 Tryz.underlying26 hi4 hq0 hq1 hq2 rfl (by decide) (Value.slice mva M mvc) M lvals rfl HLo.out ⟨w7.heap.size, 0, none⟩ 4 4 [(Value.slice psa sl.length psc), .slice a1 (sl.length + 1) k1, .slice a2 (sl.length + 2) k2, .slice a3 (sl.length + 3) k3] rfl rfl (cells_new w7 _ _) (by intro u hu; simp only [List.mem_cons, List.not_mem_nil, or_false] at hu; rcases hu with rfl | rfl | rfl | rfl <;> rfl) (by unfold maxLen; omega) (by omega) (Nat.zero_le _) ?_) | fail)
              intro nv w8 ho8 hg8 hh8
              have hs8 : w7.heap.size + 1 ≤ w8.heap.size := by have := hg8.size; simpa using this
              have hb8 : w8.heap[kb]? = some (.cells #[sv, .slice nva (N + 4) nvc, .slice mva M mvc, .slice none 0 0] 29) := (hg8.block kb (by simp; omega) (fun e => hkl e.symm)).trans HSa.out.book.blk
              have g1 : w8.cell? ⟨kb, 2, none⟩ = some (Value.slice mva M mvc) := cell_of_row w8 kb 2 _ _ (0, 0) hb8
              have g2 : w8.frozen? ⟨kb, 2, none⟩ = false := frozen_of_row w8 kb 2 _ _ hb8
              obtain ⟨KN2, hKN2⟩ : ∃ KN2 : Nat → Prop, KN2 = fun k => KN k ∨ (Value.slice psa sl.length psc).ownBlock = some k ∨ (W0.heap.size ≤ k ∧ k < w8.heap.size) := ⟨_, rfl⟩
              have HKN2 := hide hKN2
              clear hKN2
              have hwr : W0.heap.size ≤ wr.heap.size := by omega
              have HIn : Hid (∀ u, (∀ k, u.ownBlock = some k → (Value.slice psa sl.length psc).ownBlock = some k ∨ wr.heap.size ≤ k) → (∀ k, u.ownBlock = some k → k < w8.heap.size) → In KN2 u) := fun u h1 h2 k e => by
                rw [HKN2.out]
                rcases h1 k e with h | h
                · exact .inr (.inl h)
                · exact .inr (.inr ⟨by omega, h2 k e⟩)
              have HSt9 := hide (HSa.out.addSam (Kc' := KN2) HLo.out HLin.out HLp.out hM4 rfl hg8 ho8 (fun k hk => by rw [HKN2.out]; exact .inl hk) (fun k e => by
                  rcases hh8 with h | ⟨b, h, hb⟩
                  · rw [HKN2.out]; exact .inl (HLin.out k (by rw [← h]; exact e))
                  · have hlt := (World.ownsRow.lt ho8 k e).2
                    rw [h] at e; cases e
                    rw [HKN2.out]; exact .inr (.inr ⟨by simp at hb; omega, hlt⟩)) (fun u hu => by
                  have hs : ∀ (v : Value) (n : Nat) (xs : List Value), w7.ownsRow base 34 2 v n xs → ∀ k, v.ownBlock = some k → k < w8.heap.size := fun v n xs h k e => by have := (World.ownsRow.lt h k e).2; omega
                  simp only [List.mem_cons, List.not_mem_nil, or_false] at hu
                  rcases hu with rfl | rfl | rfl | rfl
                  · exact ⟨⟨_, own_mono (own_alloc HR7.out _) (Nat.zero_le _)⟩, HIn.out _ (fun k e => .inl e) (hs _ _ _ HR7.out)⟩
                  · exact ⟨⟨_, own_mono (own_alloc HQ1.out _) (Nat.zero_le _)⟩, HIn.out _ HB1.out (hs _ _ _ HQ1.out)⟩
                  · exact ⟨⟨_, own_mono (own_alloc HQ2.out _) (Nat.zero_le _)⟩, HIn.out _ HB2.out (hs _ _ _ HQ2.out)⟩
                  · exact ⟨⟨_, own_mono (own_alloc HO3.out _) (Nat.zero_le _)⟩, HIn.out _ HB3.out (hs _ _ _ HO3.out)⟩) (fun k hk => by
                  rw [HKN2.out] at hk
                  rcases hk with hk | hk | hk
                  · exact HSa.out.sub k hk
                  · exact .inr (HGlt.out k hk).1
                  · exact .inr (by have := HBs.out; omega)) (fun k hk => by
                  rw [HKN2.out] at hk
                  rcases hk with hk | hk | hk
                  · have := HSa.out.book.lt k hk; simp at this; omega
                  · have := (World.ownsRow.lt HR7.out k hk).2; omega
                  · exact hk.2))
              have HFar9 := hide (((HFar7.out.alloc _).grown hg8 (fun k e _ => HGL.out k e)).set HKb2.out 2 nv)
              obtain ⟨nva2, nvc2, rfl⟩ := own_shape ho8
              clear ho8 hg8 hh8 hb8 HSa HLo HLin HLp HSt7 HFar7 HR7 HQ1 HQ2 HO3 HB1 HB2 HB3 HIn
              have HFin : Hid (KL w (w8.setCell ⟨kb, 2, none⟩ (.slice nva2 (M + 4) nvc2)) B base kb K KN2 sv (.slice nva (N + 4) nvc) (.slice nva2 (M + 4) nvc2) (.slice (some ⟨gb, 0, none⟩) bs.length bc) ns nl nm (q + 1) vals bs) := by
                have hT2 : ∀ (b e s : Nat) (u : Value) (n : Nat) (xs : List Value), W0.ownsRow b e s u n xs → (e = 80 → Aside u (.slice pla ll.length plc)) → (e = 34 → Aside u (.slice psa sl.length psc)) → e ≠ 29 → e ≠ 36 → e ≠ 35 → ∀ k, u.ownBlock = some k → ¬ G2 k := fun b e s u n xs hu h1 h2 h3 h4 h5 k ek hGk => by
                  rw [HG2.out] at hGk
                  rcases hGk with h | h | h
                  · exact HT1.out b e s u n xs hu h1 h3 h4 k ek h
                  · by_cases he : e = 34
                    · exact h2 he k ek h
                    · exact own_types hu HSr.out he k ek h
                  · obtain ⟨_, lo, _⟩ := H.out.st.book.sam
                    exact own_types hu lo h5 k ek (by rw [← h])
                have hApt : ∀ (j : Nat) (p : Value × Value), q + 1 ≤ j → vals[j]? = some p → Aside p.1 (.slice pla ll.length plc) ∧ Aside p.2 (.slice psa sl.length psc) := fun j p hj hp => by
                  have h1 := List.pairwise_iff_getElem.1 H.out.apt q j (List.getElem?_eq_some_iff.1 HP.out).1 (List.getElem?_eq_some_iff.1 hp).1 (by omega)
                  rw [(List.getElem?_eq_some_iff.1 HP.out).2, (List.getElem?_eq_some_iff.1 hp).2] at h1
                  exact ⟨fun k e e' => h1.1 k e' e, fun k e e' => h1.2 k e' e⟩
                have hgeo : ∀ (b e s : Nat) (u : Value) (n : Nat) (xs : List Value), W0.ownsRow b e s u n xs → (∀ k, u.ownBlock = some k → ¬ G2 k) → (w8.setCell ⟨kb, 2, none⟩ (.slice nva2 (M + 4) nvc2)).ownsRow b e s u n xs := fun b e s u n xs hu h => own_kept hu fun k ek => HFar9.out.2 k (World.ownsRow.lt hu k ek).2 (h k ek)
                refine ⟨by have h := HSt9.out; have e1 : nl + 4 * (q + 1) = N + 4 := (by have := HN.out.1; omega); have e2 : nm + 4 * (q + 1) = M + 4 := (by have := HN.out.2; omega); rw [e1, e2]; exact h, fun k hk hU => ?_, H.out.len, hgeo _ _ _ _ _ _ H.out.row (hT2 _ _ _ _ _ _ H.out.row (fun h => by cases h) (fun h => by cases h) (by decide) (by decide) (by decide)), fun j p x hj hp hx => ?_, H.out.apt⟩
                · have hU2 : ∀ k, Un (.slice (some ⟨gb, 0, none⟩) bs.length bc) vals (q + 1) k → Un (.slice (some ⟨gb, 0, none⟩) bs.length bc) vals q k ∧ k < W0.heap.size ∧ (Value.slice pla ll.length plc).ownBlock ≠ some k ∧ (Value.slice psa sl.length psc).ownBlock ≠ some k := fun k hU => by
                    rcases hU with e | ⟨j, p, hj, hp, e | e⟩
                    · exact ⟨.inl e, (World.ownsRow.lt H.out.row k e).2, fun e' => own_types H.out.row HLr.out (by decide) k e e', fun e' => own_types H.out.row HSr.out (by decide) k e e'⟩
                    · obtain ⟨x, hx⟩ : ∃ x, bs[j]? = some x := ⟨_, List.getElem?_eq_getElem (by rw [← H.out.len]; exact (List.getElem?_eq_some_iff.1 hp).1)⟩
                      have hr := (H.out.rows j p x (by omega) hp hx).1
                      exact ⟨.inr ⟨j, p, by omega, hp, .inl e⟩, (World.ownsRow.lt hr k e).2, fun e' => (hApt j p hj hp).1 k e e', fun e' => own_types hr HSr.out (by decide) k e e'⟩
                    · obtain ⟨x, hx⟩ : ∃ x, bs[j]? = some x := ⟨_, List.getElem?_eq_getElem (by rw [← H.out.len]; exact (List.getElem?_eq_some_iff.1 hp).1)⟩
                      have hr := (H.out.rows j p x (by omega) hp hx).2
                      exact ⟨.inr ⟨j, p, by omega, hp, .inr e⟩, (World.ownsRow.lt hr k e).2, fun e' => own_types hr HLr.out (by decide) k e e', fun e' => (hApt j p hj hp).2 k e e'⟩
                  obtain ⟨u1, u2, u3, u4⟩ := hU2 k hU
                  rw [HKN2.out] at hk
                  rcases hk with hk | hk | hk
                  · rcases HKNs.out k hk with h | h | h
                    · exact H.out.un k h u1
                    · exact u3 h
                    · omega
                  · exact u4 hk
                  · omega
                · have hr := H.out.rows j p x (by omega) hp hx
                  exact ⟨hgeo _ _ _ _ _ _ hr.1 (hT2 _ _ _ _ _ _ hr.1 (fun _ => (hApt j p hj hp).1) (fun h => by cases h) (by decide) (by decide) (by decide)), hgeo _ _ _ _ _ _ hr.2 (hT2 _ _ _ _ _ _ hr.2 (fun h => by cases h) (fun _ => (hApt j p hj hp).2) (by decide) (by decide) (by decide))⟩
              clear HSt9 HFar9 H HT1 HLtP HKP HG HG2 HKN2 HKNs
              go_wp2
              go_roundw
              case rel => exact ⟨q + 1, KN2, _, _, by omega, by go_num, HFin.out⟩
              case measure => simp [intOf]; omega

    · obtain rfl : q = bs.length := by omega
      obtain ⟨d0, d1, d2, d3, hkb⟩ := H.out.st.book.cells
      obtain ⟨sva, svc, rfl⟩ := H.out.st.book.ser.shape
      have hst := H.out.st
      generalize hN : nl + 4 * bs.length = N at *
      generalize hM : nm + 4 * bs.length = M at *
      obtain ⟨lva, lvc, rfl⟩ := hst.book.lab.shape
      obtain ⟨mva, mvc, rfl⟩ := hst.book.sam.shape
      have C := hide (mark_any ns wr (by omega))
      have HSt0 := hide hst
      have HNM : Hid (nl + 4 * bs.length = N ∧ nm + 4 * bs.length = M) := ⟨hN, hM⟩
      clear hst hN hM
      go_wp2_with fail
      refine C.out.mono ?_
      rintro e w2 ⟨rfl, hb2⟩
      have hg2 := grown_of_below hb2
      have hs2 := hb2.size
      have HPl : Hid (vals.length = bs.length) := H.out.len
      have HGlt : Hid (∀ k, (Value.slice ba bs.length bc).ownBlock = some k → base ≤ k ∧ k < w2.heap.size) := fun k e => ⟨(World.ownsRow.lt H.out.row k e).1, by have := (World.ownsRow.lt H.out.row k e).2; omega⟩
      have HGK : Hid (∀ k, (Value.slice ba bs.length bc).ownBlock = some k → ¬ Kc k) := fun k e hk => H.out.un k hk (.inl e)
      have HBs : Hid (base ≤ w2.heap.size) := by have := HSt0.out.size; exact (by omega : base ≤ w2.heap.size)
      obtain ⟨G, hG⟩ : ∃ G : Nat → Prop, G = fun k => (Value.slice ba bs.length bc).ownBlock = some k ∨ k = kb ∨ (Value.slice sva ns svc).ownBlock = some k := ⟨_, rfl⟩
      have HG := hide hG
      clear hG
      have HGG : Hid (∀ k, (Value.slice ba bs.length bc).ownBlock = some k → G k) := fun k e => by rw [HG.out]; exact .inl e
      have HGL : Hid (∀ k, (Value.slice sva ns svc).ownBlock = some k → G k) := fun k e => by rw [HG.out]; exact .inr (.inr e)
      have HGk : Hid (G kb) := by rw [HG.out]; exact .inr (.inl rfl)
      have HGz : Hid (¬ G w2.heap.size) := fun h => by
        rw [HG.out] at h
        rcases h with h | h | h
        · have := (HGlt.out _ h).2; omega
        · omega
        · obtain ⟨_, _, sin, _⟩ := HSt0.out.book.ser
          have := HSt0.out.book.lt _ (sin _ h); omega
      obtain ⟨W0, hW0⟩ : ∃ W0, W0 = (w2.alloc (.cells #[.string (markT ns), .string ⟨#[]⟩] 80)).alloc (.cells #[.slice (some ⟨w2.heap.size, 0, none⟩) 1 1, .slice none 0 0] 38) := ⟨_, rfl⟩
      have HSt : Hid (KSt w W0 B base kb K Kc (.slice sva ns svc) (.slice lva N lvc) (.slice mva M mvc) ns N M) := by rw [hW0]; exact ((HSt0.out.write hg2 (fun _ e => by cases e)).alloc _).alloc _
      have HFar : Hid (Far W0 W0 G) := Far.refl _ _
      have HRow : Hid (W0.ownsRow base 38 2 (.slice ba bs.length bc) bs.length (serCells vals)) := by
        rw [hW0]; exact own_alloc (own_alloc (own_kept H.out.row fun k e => hb2.block k (World.ownsRow.lt H.out.row k e).2) _) _
      have HBox : Hid (W0.heap[w2.heap.size + 1]? = some (.cells #[.slice (some ⟨w2.heap.size, 0, none⟩) 1 1, .slice none 0 0] 38)) := by
        have h := heap_alloc_new (w2.alloc (.cells #[.string (markT ns), .string ⟨#[]⟩] 80)) (.cells #[.slice (some ⟨w2.heap.size, 0, none⟩) 1 1, .slice none 0 0] 38)
        rw [hW0]; exact hide (by simpa using h)
      have HLz0 : Hid (W0.ownsRow 0 80 2 (.slice (some ⟨w2.heap.size, 0, none⟩) 1 1) 1 (rep 1 (.string (markT ns)) (.string ByteArray.empty))) := by
        rw [hW0]; exact own_alloc (World.ownsRow_lit (base := 0) (e := 80) (size := 2) w2 #[.string (markT ns), .string ⟨#[]⟩] 1 (Nat.zero_le _) (by decide) rfl) _
      have hz0 : w2.heap.size + 2 ≤ W0.heap.size := by rw [hW0]; simp
      clear C hb2 hg2 HSt0 H
      go_wp2
      rw [← hW0]
      generalize w2.heap.size = zb at *
      obtain ⟨xb, hxe⟩ : ∃ xb, xb = zb + 1 := ⟨_, rfl⟩
      rw [← hxe] at HBox ⊢
      have hs3 : zb ≤ xb := by omega
      clear hW0 hxe
      go_loopw [18] (fun i W => ∃ j : Nat, j ≤ bs.length ∧ i = .int .i64 j ∧ Hid (KSt w W B base kb K Kc (.slice sva ns svc) (.slice lva N lvc) (.slice mva M mvc) ns N M) ∧ Hid (Far W0 W G) ∧ Hid (W.ownsRow base 38 2 (Value.slice ba bs.length bc) bs.length (serCells (mixP (.slice (some ⟨zb, 0, none⟩) 1 1) (.slice none 0 0) (vals) j))) ∧ Hid (W.heap[xb]? = some (.cells #[(.slice (some ⟨zb, 0, none⟩) 1 1), (.slice none 0 0)] 38))) (fun i _ => bs.length - (intOf i).toNat)
      case atStart => exact ⟨0, Nat.zero_le _, rfl, HSt.out, HFar.out, HRow.out, HBox.out⟩
      case round =>
        clear HSt HFar HRow HBox
        obtain ⟨j, hj, rfl, HSt, HFar, HRow, HBox⟩ := hrel
        obtain ⟨x0, x1, hxb⟩ := box_cells HBox.out
        by_cases hjl : j < bs.length
        · obtain ⟨gl, cl, hv, hgl⟩ := ownsRow_some2 HRow.out (by omega)
          cases hv
          have f0 := HRow.out.frozenAt (j * 2)
          have hmg := serCells_get (mixP_get (c := (.slice (some ⟨zb, 0, none⟩) 1 1)) (d := (.slice none 0 0)) (ps := vals) (j := j) (by rw [HPl.out]; exact hjl))
          have q0 := own_cell HRow.out hmg.1
          have hs1 := (HRow.out.stored (j * 2) (.slice (some ⟨zb, 0, none⟩) 1 1)).1
          have q1 := own_cell hs1 (j := j * 2 + 1) (by rw [List.getElem?_set_ne (by omega)]; exact hmg.2)
          have f1 := hs1.frozenAt (j * 2 + 1)
          clear hmg hs1
          have hgx : ¬ xb = gl := fun e => by have := (HGlt.out gl rfl).2; omega
          have hms := mix_stored (c := (.slice (some ⟨zb, 0, none⟩) 1 1)) (d := (.slice none 0 0)) (ps := vals) (j := j) (g := gl) (base := base) (e := 38) (w := wr) (by rw [HPl.out]; exact hjl) (by rw [HPl.out]; exact HRow.out)
          rw [HPl.out] at hms
          have HRow2 := hide hms.1
          have HSt2 := hide (HSt.out.write hms.2 (fun k e => by cases e; exact ⟨(HGlt.out gl rfl).1, HGK.out gl rfl⟩))
          have HFar2 := hide (HFar.out.grown hms.2 (fun k e _ => by cases e; exact HGG.out gl rfl))
          have HBox2 : Hid (((wr.setCell ⟨gl, j * 2, none⟩ (.slice (some ⟨zb, 0, none⟩) 1 1)).setCell ⟨gl, j * 2 + 1, none⟩ (.slice none 0 0)).heap[xb]? = some (.cells #[(.slice (some ⟨zb, 0, none⟩) 1 1), (.slice none 0 0)] 38)) := (hms.2.block xb hxb (fun e => hgx (Option.some.inj e))).trans HBox.out
          clear hms HSt HFar HRow HBox
          go_wp2
          go_roundw
          case rel => exact ⟨j + 1, by omega, by go_num, HSt2.out, HFar2.out, HRow2.out, HBox2.out⟩
          case measure => simp [intOf]; omega
        · obtain rfl : j = bs.length := by omega
          have HR0 : Hid (wr.ownsRow base 38 2 (Value.slice ba bs.length bc) bs.length (rep bs.length (.slice (some ⟨zb, 0, none⟩) 1 1) (.slice none 0 0))) := by
            have h := HRow.out
            rw [← HPl.out, mixP_end, HPl.out] at h
            exact h
          have hsw := HFar.out.1
          clear HRow
          have hbsz := HSt.out.size
          have HW0 : Hid (∀ k, (Value.slice ba bs.length bc).ownBlock = some k → k < wr.heap.size) := fun k e => (World.ownsRow.lt HR0.out k e).2
          go_wp2_with (first | (at_builtin; refine wpList_append_keeps _ rfl (.tmp 147) (.tmp 149) 39 rfl base 38 i5 (.agg #[.slice none 0 0, .slice none 0 0]) 2 48 Tryz.underlying39 hi5 hr0 hr1 hr2 rfl (by decide) (Value.slice ba bs.length bc) bs.length (rep bs.length (.slice (some ⟨zb, 0, none⟩) 1 1) (.slice none 0 0)) rfl (own_alloc HR0.out _) ⟨wr.heap.size, 0, none⟩ 1 1 (rep 1 (.slice (some ⟨zb, 0, none⟩) 1 1) (.slice none 0 0)) rfl rfl (cells_new wr [(.slice (some ⟨zb, 0, none⟩) 1 1), (.slice none 0 0)] 38) (rep_one rfl rfl) (by unfold maxLen; omega) (by omega) (by simp; omega) ?_) | fail)
          intro l1 w5 ho5 hg5 hh5 hk5
          have hs5 : wr.heap.size + 1 ≤ w5.heap.size := by have := hg5.size; simpa using this
          have HR5 := hide (keep_rep hk5 (N := bs.length) (by omega) (own_alloc HR0.out _))
          have HO1 : Hid (w5.ownsRow base 38 2 l1 (bs.length + 1) (rep (bs.length + 1) (.slice (some ⟨zb, 0, none⟩) 1 1) (.slice none 0 0))) := by rw [← rep_add]; exact ho5
          have HSt5 := hide ((HSt.out.alloc _).write hg5 (fun k e => ⟨(HGlt.out k e).1, HGK.out k e⟩))
          have HFar5 := hide ((HFar.out.alloc _).grown hg5 (fun k e _ => HGG.out k e))
          have HBox5 : Hid (w5.heap[xb]? = some (.cells #[(.slice (some ⟨zb, 0, none⟩) 1 1), (.slice none 0 0)] 38)) := (hg5.block xb (by simp; omega) (fun e => by have := (HGlt.out xb e.symm).2; omega)).trans ((heap_alloc_old wr _ hxb).trans HBox.out)
          have HB1 : Hid (∀ k, l1.ownBlock = some k → (Value.slice ba bs.length bc).ownBlock = some k ∨ wr.heap.size ≤ k) := fun k e => by
            rcases hh5 with h | ⟨b, h, hb⟩
            · exact .inl (by rw [← h]; exact e)
            · rw [h] at e; cases e; exact .inr (by simp at hb; omega)
          obtain ⟨a1, k1, rfl⟩ := own_shape HO1.out
          obtain ⟨y0, y1, hyb⟩ := box_cells HBox5.out
          clear ho5 hg5 hh5 hk5 HR0 HBox HSt HFar x0 x1
          go_wp2_with (first | (at_builtin; refine wpList_append_keeps _ rfl (.tmp 151) (.tmp 154) 39 rfl base 38 i5 (.agg #[.slice none 0 0, .slice none 0 0]) 2 48 Tryz.underlying39 hi5 hr0 hr1 hr2 rfl (by decide) (Value.slice ba bs.length bc) bs.length (rep bs.length (.slice (some ⟨zb, 0, none⟩) 1 1) (.slice none 0 0)) rfl (own_alloc HR5.out _) ⟨w5.heap.size, 0, none⟩ 2 2 (rep 2 (.slice (some ⟨zb, 0, none⟩) 1 1) (.slice none 0 0)) rfl rfl (cells_new w5 [(.slice (some ⟨zb, 0, none⟩) 1 1), (.slice none 0 0), (.slice (some ⟨zb, 0, none⟩) 1 1), (.slice none 0 0)] 38) (rep_one rfl rfl) (by unfold maxLen; omega) (by omega) (by simp; omega) ?_) | fail)
          intro l2 w6 ho6 hg6 hh6 hk6
          have hs6 : w5.heap.size + 1 ≤ w6.heap.size := by have := hg6.size; simpa using this
          have HR6 := hide (keep_rep hk6 (N := bs.length) (by omega) (own_alloc HR5.out _))
          have HP1 := hide (keep_rep hk6 (N := bs.length + 1) (by omega) (own_alloc HO1.out _))
          have HO2 : Hid (w6.ownsRow base 38 2 l2 (bs.length + 2) (rep (bs.length + 2) (.slice (some ⟨zb, 0, none⟩) 1 1) (.slice none 0 0))) := by rw [← rep_add]; exact ho6
          have HSt6 := hide ((HSt5.out.alloc _).write hg6 (fun k e => ⟨(HGlt.out k e).1, HGK.out k e⟩))
          have HFar6 := hide ((HFar5.out.alloc _).grown hg6 (fun k e _ => HGG.out k e))
          have HBox6 : Hid (w6.heap[xb]? = some (.cells #[(.slice (some ⟨zb, 0, none⟩) 1 1), (.slice none 0 0)] 38)) := (hg6.block xb (by simp; omega) (fun e => by have := (HGlt.out xb e.symm).2; omega)).trans ((heap_alloc_old w5 _ hyb).trans HBox5.out)
          have HB2 : Hid (∀ k, l2.ownBlock = some k → (Value.slice ba bs.length bc).ownBlock = some k ∨ wr.heap.size ≤ k) := fun k e => by
            rcases hh6 with h | ⟨b, h, hb⟩
            · exact .inl (by rw [← h]; exact e)
            · rw [h] at e; cases e; exact .inr (by simp at hb; omega)
          obtain ⟨a2, k2, rfl⟩ := own_shape HO2.out
          obtain ⟨z0, z1, hzb⟩ := box_cells HBox6.out
          clear ho6 hg6 hh6 hk6 HR5 HBox5 HSt5 HFar5 HO1 y0 y1
          go_wp2_with (first | (at_builtin; refine wpList_append_keeps _ rfl (.tmp 156) (.tmp 160) 39 rfl base 38 i5 (.agg #[.slice none 0 0, .slice none 0 0]) 2 48 Tryz.underlying39 hi5 hr0 hr1 hr2 rfl (by decide) (Value.slice ba bs.length bc) bs.length (rep bs.length (.slice (some ⟨zb, 0, none⟩) 1 1) (.slice none 0 0)) rfl (own_alloc HR6.out _) ⟨w6.heap.size, 0, none⟩ 3 3 (rep 3 (.slice (some ⟨zb, 0, none⟩) 1 1) (.slice none 0 0)) rfl rfl (cells_new w6 [(.slice (some ⟨zb, 0, none⟩) 1 1), (.slice none 0 0), (.slice (some ⟨zb, 0, none⟩) 1 1), (.slice none 0 0), (.slice (some ⟨zb, 0, none⟩) 1 1), (.slice none 0 0)] 38) (rep_one rfl rfl) (by unfold maxLen; omega) (by omega) (by simp; omega) ?_) | fail)
          intro l3 w7 ho7 hg7 hh7 hk7
          have hs7 : w6.heap.size + 1 ≤ w7.heap.size := by have := hg7.size; simpa using this
          have HR7 := hide (keep_rep hk7 (N := bs.length) (by omega) (own_alloc HR6.out _))
          have HQ1 := hide (keep_rep hk7 (N := bs.length + 1) (by omega) (own_alloc HP1.out _))
          have HQ2 := hide (keep_rep hk7 (N := bs.length + 2) (by omega) (own_alloc HO2.out _))
          have HO3 : Hid (w7.ownsRow base 38 2 l3 (bs.length + 3) (rep (bs.length + 3) (.slice (some ⟨zb, 0, none⟩) 1 1) (.slice none 0 0))) := by rw [← rep_add]; exact ho7
          have HSt7 := hide ((HSt6.out.alloc _).write hg7 (fun k e => ⟨(HGlt.out k e).1, HGK.out k e⟩))
          have HFar7 := hide ((HFar6.out.alloc _).grown hg7 (fun k e _ => HGG.out k e))
          have HB3 : Hid (∀ k, l3.ownBlock = some k → (Value.slice ba bs.length bc).ownBlock = some k ∨ wr.heap.size ≤ k) := fun k e => by
            rcases hh7 with h | ⟨b, h, hb⟩
            · exact .inl (by rw [← h]; exact e)
            · rw [h] at e; cases e; exact .inr (by simp at hb; omega)
          obtain ⟨a3, k3, rfl⟩ := own_shape HO3.out
          clear ho7 hg7 hh7 hk7 HR6 HBox6 HSt6 HFar6 HO2 HP1 z0 z1
          have HSa := hide (HSt7.out.alloc (.cells #[(Value.slice ba bs.length bc), .slice a1 (bs.length + 1) k1, .slice a2 (bs.length + 2) k2, .slice a3 (bs.length + 3) k3] 39))
          obtain ⟨lvals, lo, lin, lp⟩ := HSa.out.book.ser
          obtain ⟨e0, e1, e2, e3, hekb⟩ := HSt7.out.book.cells
          have HLo := hide lo
          have HLin := hide lin
          have HLp := hide lp
          have hkl : ((Value.slice sva ns svc)).ownBlock ≠ some kb := kb_types HSa.out.book.blk lo (by decide)
          clear lo lin lp
          go_wp2_with (first | (at_builtin; refine wpList_append_heir _ rfl (.tmp 166) (.tmp 171) 24 rfl 0 39 i6 (.slice none 0 0) 1 24 Tryz.underlying24 hi6 hu0 hu1 hu2 rfl (by decide) (Value.slice sva ns svc) ns lvals rfl HLo.out ⟨w7.heap.size, 0, none⟩ 4 4 [(Value.slice ba bs.length bc), .slice a1 (bs.length + 1) k1, .slice a2 (bs.length + 2) k2, .slice a3 (bs.length + 3) k3] rfl rfl (cells_new w7 _ _) (by intro u hu; simp only [List.mem_cons, List.not_mem_nil, or_false] at hu; rcases hu with rfl | rfl | rfl | rfl <;> rfl) (by unfold maxLen; omega) (by omega) (Nat.zero_le _) ?_) | fail)
          intro nv w8 ho8 hg8 hh8
          have hs8 : w7.heap.size + 1 ≤ w8.heap.size := by have := hg8.size; simpa using this
          have hb8 : w8.heap[kb]? = some (.cells #[.slice sva ns svc, .slice lva N lvc, .slice mva M mvc, .slice none 0 0] 29) := (hg8.block kb (by simp; omega) (fun e => hkl e.symm)).trans HSa.out.book.blk
          have g1 : w8.cell? ⟨kb, 0, none⟩ = some (Value.slice sva ns svc) := cell_of_row w8 kb 0 _ _ (0, 0) hb8
          have g2 : w8.frozen? ⟨kb, 0, none⟩ = false := frozen_of_row w8 kb 0 _ _ hb8
          obtain ⟨KN, hKN⟩ : ∃ KN : Nat → Prop, KN = fun k => Kc k ∨ (Value.slice ba bs.length bc).ownBlock = some k ∨ (zb ≤ k ∧ k < w8.heap.size) := ⟨_, rfl⟩
          have HKN := hide hKN
          clear hKN
          have hwr : zb ≤ wr.heap.size := by omega
          have HIn : Hid (∀ u, (∀ k, u.ownBlock = some k → (Value.slice ba bs.length bc).ownBlock = some k ∨ wr.heap.size ≤ k) → (∀ k, u.ownBlock = some k → k < w8.heap.size) → In KN u) := fun u h1 h2 k e => by
            rw [HKN.out]
            rcases h1 k e with h | h
            · exact .inr (.inl h)
            · exact .inr (.inr ⟨by omega, h2 k e⟩)
          have HSt9 := hide (HSa.out.addSer (Kc' := KN) HLo.out HLin.out HLp.out hm1 rfl hg8 ho8 (fun k hk => by rw [HKN.out]; exact .inl hk) (fun k e => by
              rcases hh8 with h | ⟨b, h, hb⟩
              · rw [HKN.out]; exact .inl (HLin.out k (by rw [← h]; exact e))
              · have hlt := (World.ownsRow.lt ho8 k e).2
                rw [h] at e; cases e
                rw [HKN.out]; exact .inr (.inr ⟨by simp at hb; omega, hlt⟩)) (fun u hu => by
              have hs : ∀ (v : Value) (n : Nat) (xs : List Value), w7.ownsRow base 38 2 v n xs → ∀ k, v.ownBlock = some k → k < w8.heap.size := fun v n xs h k e => by have := (World.ownsRow.lt h k e).2; omega
              simp only [List.mem_cons, List.not_mem_nil, or_false] at hu
              rcases hu with rfl | rfl | rfl | rfl
              · exact ⟨⟨_, Value.slice (some ⟨zb, 0, none⟩) 1 1, own_mono (own_alloc HR7.out _) (Nat.zero_le _), own_alloc (own_kept HLz0.out fun k e => HFar7.out.2 k (World.ownsRow.lt HLz0.out k e).2 (by have e2 : zb = k := Option.some.inj e; rw [← e2]; exact HGz.out)) _, fun k e => by rw [HKN.out]; have e2 : zb = k := Option.some.inj e; exact .inr (.inr ⟨by omega, by omega⟩)⟩, HIn.out _ (fun k e => .inl e) (hs _ _ _ HR7.out)⟩
              · exact ⟨⟨_, Value.slice (some ⟨zb, 0, none⟩) 1 1, own_mono (own_alloc HQ1.out _) (Nat.zero_le _), own_alloc (own_kept HLz0.out fun k e => HFar7.out.2 k (World.ownsRow.lt HLz0.out k e).2 (by have e2 : zb = k := Option.some.inj e; rw [← e2]; exact HGz.out)) _, fun k e => by rw [HKN.out]; have e2 : zb = k := Option.some.inj e; exact .inr (.inr ⟨by omega, by omega⟩)⟩, HIn.out _ HB1.out (hs _ _ _ HQ1.out)⟩
              · exact ⟨⟨_, Value.slice (some ⟨zb, 0, none⟩) 1 1, own_mono (own_alloc HQ2.out _) (Nat.zero_le _), own_alloc (own_kept HLz0.out fun k e => HFar7.out.2 k (World.ownsRow.lt HLz0.out k e).2 (by have e2 : zb = k := Option.some.inj e; rw [← e2]; exact HGz.out)) _, fun k e => by rw [HKN.out]; have e2 : zb = k := Option.some.inj e; exact .inr (.inr ⟨by omega, by omega⟩)⟩, HIn.out _ HB2.out (hs _ _ _ HQ2.out)⟩
              · exact ⟨⟨_, Value.slice (some ⟨zb, 0, none⟩) 1 1, own_mono (own_alloc HO3.out _) (Nat.zero_le _), own_alloc (own_kept HLz0.out fun k e => HFar7.out.2 k (World.ownsRow.lt HLz0.out k e).2 (by have e2 : zb = k := Option.some.inj e; rw [← e2]; exact HGz.out)) _, fun k e => by rw [HKN.out]; have e2 : zb = k := Option.some.inj e; exact .inr (.inr ⟨by omega, by omega⟩)⟩, HIn.out _ HB3.out (hs _ _ _ HO3.out)⟩) (fun k hk => by
              rw [HKN.out] at hk
              rcases hk with hk | hk | hk
              · exact HSa.out.sub k hk
              · exact .inr (HGlt.out k hk).1
              · exact .inr (by have := HBs.out; omega)) (fun k hk => by
              rw [HKN.out] at hk
              rcases hk with hk | hk | hk
              · have := HSa.out.book.lt k hk; simp at this; omega
              · have := (World.ownsRow.lt HR7.out k hk).2; omega
              · exact hk.2))
          have HFar9 := hide (((HFar7.out.alloc _).grown hg8 (fun k e _ => HGL.out k e)).set HGk.out 0 nv)
          obtain ⟨nva, nvc, rfl⟩ := own_shape ho8
          clear ho8 hg8 hh8 hb8 HSa HLo HLin HLp HSt7 HFar7 HR7 HQ1 HQ2 HO3 HB1 HB2 HB3 HIn
          clear HFar9
          go_wp2
          go_end0
          exact ⟨rfl, KN, _, _, _, by rw [HNM.out.1, HNM.out.2]; exact HSt9.out⟩
end Go.Proofs.YtamcclcbmenjdaaGreatDoor

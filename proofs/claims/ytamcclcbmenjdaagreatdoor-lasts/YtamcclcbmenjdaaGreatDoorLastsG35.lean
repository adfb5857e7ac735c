/- 'choirkeep.Lasts', for any two lists of steps (100 of each are done) and any numbers: what a replica had when it was synced or compacted it has behind any crash and restart, whatever came between; and a second restart changes nothing. The first form's statement and its card: no condition beside the row's own. -/
import Derived.Test.YtamcclcbmenjdaaGreatDoorLastsG34
import Derived.Lib.MinMax
/- Frames one behind the other: firstFrame, UnpackRow. -/
namespace Go.Proofs.YtamcclcbmenjdaaGreatDoor
open Go.RowKit Go.Lib

/-- The only beginning of a text that can be a frame. -/
def ff (s : List UInt8) : List UInt8 := if s.length < 7 ∨ s.length < 11 + pszTo s 4 then [] else s.take (11 + pszTo s 4)
theorem ff_len (s : List UInt8) : (ff s).length ≤ s.length := by
  unfold ff
  split
  · simp
  · simp; omega
/-- Batches of frames, one behind the other, and how many bytes they take. -/
def RowOf (s : List UInt8) : List (List Ser) → Nat → Prop
  | [], n => ¬ IsFrame (ff s) ∧ n = 0
  | b :: bss, n => IsFrame (ff s) ∧ b = got (ff s) ∧ ∃ m, n = (ff s).length + m ∧ RowOf (s.drop (ff s).length) bss m
theorem RowOf.stop (s : List UInt8) (h : ¬ IsFrame (ff s)) : RowOf s [] 0 := ⟨h, rfl⟩
theorem RowOf.next (s : List UInt8) (bss : List (List Ser)) (n : Nat) (h : IsFrame (ff s)) (hr : RowOf (s.drop (ff s).length) bss n) : RowOf s (got (ff s) :: bss) ((ff s).length + n) := ⟨h, rfl, n, rfl, hr⟩
theorem RowOf.two {s : List UInt8} {motive : ∀ (bss : List (List Ser)) (n : Nat), RowOf s bss n → Prop} (stop : ∀ h : ¬ IsFrame (ff s), motive [] 0 (RowOf.stop s h)) (next : ∀ (bss : List (List Ser)) (n : Nat) (h : IsFrame (ff s)) (hr : RowOf (s.drop (ff s).length) bss n), motive _ _ (RowOf.next s bss n h hr))
    {bss : List (List Ser)} {n : Nat} (h : RowOf s bss n) : motive bss n h :=
  match bss, h with
  | [], h =>
    have h1 : ¬ IsFrame (ff s) ∧ n = 0 := h
    Eq.rec (motive := fun n' _ => ∀ h' : RowOf s [] n', motive [] n' h') (fun _ => stop h1.1) h1.2.symm h
  | b :: bss, h =>
    have h1 : IsFrame (ff s) ∧ b = got (ff s) ∧ ∃ m, n = (ff s).length + m ∧ RowOf (s.drop (ff s).length) bss m := h
    h1.2.2.elim fun m h3 => Eq.rec (motive := fun b' _ => ∀ h' : RowOf s (b' :: bss) n, motive (b' :: bss) n h') (Eq.rec (motive := fun n' _ => ∀ h' : RowOf s (got (ff s) :: bss) n', motive (got (ff s) :: bss) n' h') (fun _ => next bss m h1.1 h3.2) h3.1.symm) h1.2.1.symm h
theorem RowOf.ind {motive : ∀ (s : List UInt8) (bss : List (List Ser)) (n : Nat), RowOf s bss n → Prop} (stop : ∀ (s : List UInt8) (h : ¬ IsFrame (ff s)), motive s [] 0 (RowOf.stop s h)) (next : ∀ (s : List UInt8) (bss : List (List Ser)) (n : Nat) (h : IsFrame (ff s)) (hr : RowOf (s.drop (ff s).length) bss n), motive _ _ _ hr → motive _ _ _ (RowOf.next s bss n h hr))
    {s : List UInt8} {bss : List (List Ser)} {n : Nat} (h : RowOf s bss n) : motive s bss n h := by
  induction bss generalizing s n with
  | nil => exact RowOf.two (motive := fun bss n h => bss = [] → motive s bss n h) (fun h _ => stop s h) (fun _ _ _ _ e => by cases e) h rfl
  | cons b bss ih => exact RowOf.two (motive := fun bss' n h => bss' = b :: bss → motive s bss' n h) (fun _ e => by cases e) (fun cs m h1 h4 e => by
    have e2 : cs = bss := (List.cons.inj e).2
    subst e2
    exact next s cs m h1 h4 (ih h4)) h rfl

set_option maxHeartbeats 400000 in
theorem firstFrame_any (s : ByteArray) (w : World) (hs : s.size ≤ 140737488355328) :
    Calls Tryz.prog 125 #[.string s] w fun e w' => e = .returned (.string (BA (ff s.data.toList))) ∧ w = w' := by
  have hsz : s.data.toList.length = s.size := by simp
  by_cases h7 : s.size < 7
  · have HE : Hid (BA (ff s.data.toList) = ByteArray.empty) := by show _ = _; unfold ff; rw [hsz, if_pos (.inl h7)]; rfl
    go_enter Tryz.func125, Tryz.ntmps125
    go_wp2
    go_ret
    rw [HE.out]
    exact ⟨rfl, rfl⟩
  · have C := hide (payloadSize_any s w (by omega))
    have hp4 := pszTo_lt s.data.toList 4
    have HF : Hid (∀ p, p = pszTo s.data.toList 4 → BA (ff s.data.toList) = if s.size < 11 + p then ByteArray.empty else s.extract 0 (11 + p)) := fun p hp => by
      unfold ff
      rw [hsz, ← hp]
      by_cases h : s.size < 11 + p
      · rw [if_pos (.inr h), if_pos h]; rfl
      · rw [if_neg (by omega), if_neg h]
        apply ByteArray.ext
        rw [ByteArray.data_extract]
        apply Array.ext'
        simp [BA]
    generalize hp : pszTo s.data.toList 4 = p at *
    have hF := HF.out p rfl
    have hp5 : p < 4294967296 := by omega
    have HF2 := hide hF
    clear HF hp hF hp4 hsz
    by_cases h11 : s.size < 11 + p
    · have HE : Hid (BA (ff s.data.toList) = ByteArray.empty) := by show _ = _; rw [HF2.out, if_pos h11]
      have hi : (s.size : Int) < 7 + (p : Int) + 4 := by omega
      clear HF2
      go_enter Tryz.func125, Tryz.ntmps125
      go_wp2_with fail
      refine C.out.mono ?_
      rintro e w1 ⟨rfl, rfl⟩
      go_wp2
      go_ret
      rw [HE.out]
      exact ⟨rfl, rfl⟩
    · have HE : Hid (BA (ff s.data.toList) = s.extract 0 (11 + p)) := by show _ = _; rw [HF2.out, if_neg h11]
      have hi : ¬ (s.size : Int) < 7 + (p : Int) + 4 := by omega
      have htn : (7 + (p : Int) + 4).toNat = 11 + p := by omega
      have hi2 : 7 + (p : Int) + 4 ≤ (s.size : Int) := by omega
      clear HF2
      go_enter Tryz.func125, Tryz.ntmps125
      go_wp2_with fail
      refine C.out.mono ?_
      rintro e w1 ⟨rfl, rfl⟩
      go_wp2
      go_ret
      rw [HE.out]
      exact ⟨rfl, rfl⟩
theorem row_more {s : List UInt8} {done : List (List Ser)} {z : Nat} (h : ∀ bss n, RowOf (s.drop z) bss n → RowOf s (done ++ bss) (z + n)) (hf : IsFrame (ff (s.drop z))) : ∀ bss n, RowOf (s.drop (z + (ff (s.drop z)).length)) bss n → RowOf s ((done ++ [got (ff (s.drop z))]) ++ bss) ((z + (ff (s.drop z)).length) + n) := fun bss n hr => by
  have h1 := h _ _ (RowOf.next (s.drop z) bss n hf (by rw [List.drop_drop]; exact hr))
  rw [List.append_assoc, Nat.add_assoc]
  exact h1

/-- A row of lists was appended to. -/
theorem fresh_off {w w' : World} {base b n : Nat} {u bv : Value} {l : List Ser} {xs : List Value} (h : Fresh w base u l) (hrow : w.ownsRow b 39 1 bv n xs) (hk : ∀ k, k < w.heap.size → some k ≠ bv.ownBlock → w'.heap[k]? = w.heap[k]?) : Fresh w' base u l := by
  obtain ⟨vals, ho, hs⟩ := h
  exact ⟨vals, own_kept ho fun k e => hk k (World.ownsRow.lt ho k e).2 fun e' => own_types ho hrow (by decide) k e e'.symm, hs.1, fun i p x hp hx => ⟨own_kept (hs.2 i p x hp hx).1 fun k e => hk k (World.ownsRow.lt (hs.2 i p x hp hx).1 k e).2 fun e' => own_types (hs.2 i p x hp hx).1 hrow (by decide) k e e'.symm, own_kept (hs.2 i p x hp hx).2 fun k e => hk k (World.ownsRow.lt (hs.2 i p x hp hx).2 k e).2 fun e' => own_types (hs.2 i p x hp hx).2 hrow (by decide) k e e'.symm⟩⟩
theorem fresh_kept {w w' : World} {base : Nat} {u : Value} {l : List Ser} (h : Fresh w base u l) (hb : Below w.heap.size w w') : Fresh w' base u l := by
  obtain ⟨vals, ho, hs⟩ := h
  exact ⟨vals, own_kept ho fun k e => hb.block k (World.ownsRow.lt ho k e).2, hs.kept fun k _ hk => hb.block k hk⟩
theorem fresh_mono {w : World} {base base' : Nat} {u : Value} {l : List Ser} (h : Fresh w base u l) (hb : base' ≤ base) : Fresh w base' u l := by
  obtain ⟨vals, ho, hs⟩ := h
  exact ⟨vals, own_mono ho hb, hs.1, fun i p x hp hx => ⟨own_mono (hs.2 i p x hp hx).1 hb, own_mono (hs.2 i p x hp hx).2 hb⟩⟩

set_option maxRecDepth 100000 in
set_option maxHeartbeats 1000000 in
theorem unpackRow_any (W : World) (s : ByteArray) (hs : s.size ≤ 40000000000000) (hT : Tabs W) :
    Calls Tryz.prog 94 #[.string s] W fun e w' => ∃ (bss : List (List Ser)) (n : Nat) (v : Value), e = .returned (.tuple #[v, .int .i64 n]) ∧ RowOf s.data.toList bss n ∧ n ≤ s.size ∧ 11 * bss.length ≤ n ∧ RowsR w' v bss ∧ Below W.heap.size W w' := by
  obtain ⟨i0, hi, hz0, hz1, hz2⟩ := info_parts Tryz.infoSers
  have hsz : s.data.toList.length = s.size := by simp
  have h3 := hT.lt
  have HT := hide hT
  have HSz := hide hsz
  clear hT hsz
  go_enter Tryz.func94, Tryz.ntmps94
  go_wp2
  go_loopw [4, 5, 6, 7, 8] (fun bv zv _ _ _ wr => ∃ (z : Nat) (done : List (List Ser)) (vs : List Value), z ≤ s.size ∧ zv = .int .i64 z ∧ 11 * vs.length ≤ z ∧ Hid (vs.length = done.length) ∧ Hid (∀ bss n, RowOf (s.data.toList.drop z) bss n → RowOf s.data.toList (done ++ bss) (z + n)) ∧ Hid (wr.ownsRow W.heap.size 39 1 bv vs.length vs) ∧ Hid (∀ (i : Nat) (u : Value) (l : List Ser), vs[i]? = some u → done[i]? = some l → Fresh wr W.heap.size u l ∧ InRange l) ∧ Hid (Below W.heap.size W wr)) (fun _ zv _ _ _ _ => s.size - (intOf zv).toNat)
  case atStart => exact ⟨0, [], [], Nat.zero_le _, rfl, Nat.le_refl _, rfl, (fun bss n h => by simpa using h), World.ownsRow_nil _ _ _ _, (fun i u l h => by simp at h), Below.refl _ _⟩
  case round =>
    obtain ⟨z, done, vs, hz, rfl, h11, HVl, HR, HO, HF, HB⟩ := hrel
    have hws := HB.out.size
    have hrest : (s.extract z s.size).data.toList = s.data.toList.drop z := by
      rw [ByteArray.data_extract]
      simp only [Array.toList_extract, List.extract_eq_take_drop]
      exact List.take_of_length_le (by rw [List.length_drop, HSz.out]; exact Nat.le_refl _)
    have hesz : (s.extract z s.size).size = s.size - z := by rw [ByteArray.size_extract]; omega
    have C := hide (firstFrame_any (s.extract z s.size) wr (by omega))
    rw [hrest] at C
    have hfl := ff_len (s.data.toList.drop z)
    rw [List.length_drop, HSz.out] at hfl
    have HFl := hide hfl
    clear hrest hesz hfl
    obtain ⟨F, hFe⟩ : ∃ F, F = BA (ff (s.data.toList.drop z)) := ⟨_, rfl⟩
    rw [← hFe] at C
    have hFl : F.data.toList = ff (s.data.toList.drop z) := by rw [hFe, BA_list]
    have hFs : F.size ≤ s.size - z := by
      have h1 : F.size = F.data.toList.length := by simp
      rw [h1, hFl]; exact HFl.out
    have C2 := hide (unpack_any F wr (by omega) (HT.out.below HB.out (by omega)))
    have HFd := hide hFl
    have i1 : (z : Int) ≤ (s.size : Int) := by omega
    clear hFe hFl
    go_wp2_with fail
    refine C.out.mono ?_
    rintro e w1 ⟨rfl, rfl⟩
    go_wp2_with fail
    refine C2.out.mono ?_
    rintro e w2 ⟨⟨hF, u, rfl, hf2⟩ | ⟨hno, rfl⟩, hb2⟩
    · have hs2 := hb2.size
      obtain ⟨ua, uc, rfl⟩ := hf2.shape
      have h11F := hF.opens.long
      have hFsz : F.data.toList.length = F.size := by simp
      have HIs : Hid (IsFrame (ff (s.data.toList.drop z))) := by show IsFrame _; rw [← HFd.out]; exact hF
      have HMr := hide (row_more HR.out HIs.out)
      have hFe : F.size = (ff (s.data.toList.drop z)).length := by rw [← HFd.out]; simp
      have HMr2 : Hid (∀ bss n, RowOf (s.data.toList.drop (z + F.size)) bss n → RowOf s.data.toList ((done ++ [got F.data.toList]) ++ bss) ((z + F.size) + n)) := by
        show ∀ bss n, _
        rw [hFe, HFd.out]
        exact HMr.out
      have HU : Hid (Fresh w2 W.heap.size (.slice ua (got F.data.toList).length uc) (got F.data.toList) ∧ InRange (got F.data.toList)) := ⟨fresh_mono hf2.fresh hws, (payR_small (BA (inner F.data.toList))).2⟩
      have HO2 := hide (own_kept HO.out (w' := w2) fun k e => hb2.block k (World.ownsRow.lt HO.out k e).2)
      have HF2 : Hid (∀ (i : Nat) (u : Value) (l : List Ser), vs[i]? = some u → done[i]? = some l → Fresh w2 W.heap.size u l ∧ InRange l) := fun i u l h1 h2 => ⟨fresh_kept (HF.out i u l h1 h2).1 hb2, (HF.out i u l h1 h2).2⟩
      have HB2 := hide (HB.out.trans (hb2.mono hws))
      have hF11 : 11 ≤ F.size := by omega
      obtain ⟨ba, bc, rfl⟩ := own_shape HO.out
      clear hF hf2 hb2 h11F hFsz hFe HMr HIs HFd HFl HR HO HF HB C C2
      have hws2 : W.heap.size ≤ w2.heap.size := HB2.out.size
      generalize got F.data.toList = G at *
      go_wp2_with (first | (at_builtin; refine wpList_append_heir _ rfl (.tmp 22) (.tmp 24) 24 rfl W.heap.size 39 i0 (.slice none 0 0) 1 24 Tryz.underlying24 hi hz0 hz1 hz2 rfl (by decide) _ vs.length vs rfl (own_alloc HO2.out _) ⟨w2.heap.size, 0, none⟩ 1 1 [.slice ua G.length uc] rfl rfl (one_cells w2 _ _) (one_one rfl) (by unfold maxLen; omega) (by omega) (by simp; omega) ?_) | fail)
      intro v5 w5 ho5 hg5 hh5
      have hk5 : ∀ k, k < w2.heap.size → some k ≠ (Value.slice ba vs.length bc).ownBlock → w5.heap[k]? = w2.heap[k]? := fun k h1 h2 => (hg5.block k (by simp; omega) h2).trans (heap_alloc_old w2 _ h1)
      have HO5 : Hid (w5.ownsRow W.heap.size 39 1 v5 (vs ++ [Value.slice ua G.length uc]).length (vs ++ [Value.slice ua G.length uc])) := by rw [List.length_append]; exact ho5
      have HF5 : Hid (∀ (i : Nat) (u : Value) (l : List Ser), (vs ++ [Value.slice ua G.length uc])[i]? = some u → (done ++ [G])[i]? = some l → Fresh w5 W.heap.size u l ∧ InRange l) := fun i u l h1 h2 => by
        rcases getElem?_snoc h1 with ⟨hi1, hu⟩ | ⟨hi1, rfl⟩
        · rw [List.getElem?_append_left (by rw [← HVl.out]; exact hi1)] at h2
          exact ⟨fresh_off (HF2.out i u l hu h2).1 HO2.out hk5, (HF2.out i u l hu h2).2⟩
        · rw [hi1, HVl.out, List.getElem?_append_right (Nat.le_refl _), Nat.sub_self] at h2
          cases h2
          exact ⟨fresh_off HU.out.1 HO2.out hk5, HU.out.2⟩
      have HB5 : Hid (Below W.heap.size W w5) := (HB2.out.alloc hws2 _).grown hg5 (by simp; omega) (fun q e => (World.ownsRow.lt HO2.out q e).1)
      have HV5 : Hid ((vs ++ [Value.slice ua G.length uc]).length = (done ++ [G]).length) := by show _ = _; rw [List.length_append, List.length_append, HVl.out]; rfl
      clear ho5 hg5 hh5 hk5 HO2 HF2 HU HB2 HVl
      go_wp2
      go_roundw
      case rel => exact ⟨z + F.size, done ++ [G], _, by omega, by first | (refine val_int ?_; omega) | go_num, by simp; omega, HV5.out, HMr2.out, HO5.out, HF5.out, HB5.out⟩
      case measure => simp [intOf]; omega
    · have hRow := HR.out [] 0 (RowOf.stop _ (by rw [← HFd.out]; exact hno))
      rw [List.append_nil, Nat.add_zero] at hRow
      have HRow := hide hRow
      have hs2 := hb2.size
      have HB2 := hide (HB.out.trans (hb2.mono hws))
      have HO2 := hide (own_kept HO.out (w' := w2) fun k e => hb2.block k (World.ownsRow.lt HO.out k e).2)
      have HRw : Hid (RowsR w2 u4 done) := by
        obtain ⟨ba, bc, rfl⟩ := own_shape HO2.out
        refine ⟨ba, bc, by rw [HVl.out], fun i l hl => ?_⟩
        have hil : i < vs.length := by rw [HVl.out]; exact (List.getElem?_eq_some_iff.1 hl).1
        obtain ⟨u, hu⟩ : ∃ u, vs[i]? = some u := ⟨_, List.getElem?_eq_getElem hil⟩
        obtain ⟨hf, hr⟩ := HF.out i u l hu hl
        have hf2 := fresh_kept hf hb2
        obtain ⟨la, lc, rfl⟩ := fresh_shape hf2
        rcases HO2.out.2 with ⟨h0, hn0⟩ | ⟨g, cap, cur, h0, hg, hh, _⟩
        · omega
        · cases h0
          exact ⟨g, 0, la, lc, rfl, (Array.getElem?_eq_some_iff.1 hh).1, by rw [Nat.zero_add]; exact own_cell HO2.out hu, hf2.batchAt hr⟩
      have hdl : 11 * done.length ≤ z := by rw [← HVl.out]; exact h11
      obtain ⟨ba, bc, rfl⟩ := own_shape HO.out
      clear hRow hno hb2 HR HO HF HB C C2 HO2
      go_wp2
      go_ret2
      exact ⟨done, z, _, rfl, HRow.out, hz, hdl, HRw.out, HB2.out⟩
end Go.Proofs.YtamcclcbmenjdaaGreatDoor

/- A replica's Crash and Restart. -/
namespace Go.Proofs.YtamcclcbmenjdaaGreatDoor
open Go.RowKit Go.Lib

/-- A replica's struct is written whole. -/
theorem LogAt.none {w : World} {cb : Nat} {l : List ByteArray} {v : Value} (h : LogAt w cb l v) : v.ownBlock = .none := by
  cases l with
  | nil => rw [show v = .pointer .none from h]; rfl
  | cons x r =>
    obtain ⟨g, p, rfl, _⟩ := h
    rfl
theorem RepAt.whole {w : World} {cb o : Nat} {r r' : RS} {sv lp sv' lp' : Value} (h : RepAt w cb o r sv lp) (hs : Fresh w (cb + 1) sv' r'.bs) (hl : LogAt w cb r'.log lp') :
    RepAt (((((w.setCell ⟨cb, o, none⟩ (.int .i64 (upI r'.up))).setCell ⟨cb, o + 1, none⟩ sv').setCell ⟨cb, o + 2, none⟩ lp').setCell ⟨cb, o + 3, none⟩ (.int .i64 (logSize r'.log))).setCell ⟨cb, o + 4, none⟩ (.int .i64 r'.la)) cb o r' sv' lp' ∧
      ∀ W, Turn W w cb o (o + 5) → (∀ k, sv'.ownBlock = some k → W.heap.size ≤ k) → Turn W (((((w.setCell ⟨cb, o, none⟩ (.int .i64 (upI r'.up))).setCell ⟨cb, o + 1, none⟩ sv').setCell ⟨cb, o + 2, none⟩ lp').setCell ⟨cb, o + 3, none⟩ (.int .i64 (logSize r'.log))).setCell ⟨cb, o + 4, none⟩ (.int .i64 r'.la)) cb o (o + 5) := by
  have ht : Turn0 w (((((w.setCell ⟨cb, o, none⟩ (.int .i64 (upI r'.up))).setCell ⟨cb, o + 1, none⟩ sv').setCell ⟨cb, o + 2, none⟩ lp').setCell ⟨cb, o + 3, none⟩ (.int .i64 (logSize r'.log))).setCell ⟨cb, o + 4, none⟩ (.int .i64 r'.la)) cb o (o + 5) := (((((Turn0.refl w cb _ _).set _ _ (by omega) (by omega)).set _ _ (by omega) (by omega)).set _ _ (by omega) (by omega)).set _ _ (by omega) (by omega)).set _ _ (by omega) (by omega)
  have ne : ∀ {i j : Nat} {W : World} {v : Value}, i ≠ j → (W.setCell ⟨cb, i, none⟩ v).cell? ⟨cb, j, none⟩ = W.cell? ⟨cb, j, none⟩ := fun hij => World.cell?_setCell_other _ _ _ _ (fun e => hij (congrArg Addr.off e))
  refine ⟨⟨?_, ?_, ?_, ?_, ?_, fun i => (ht.frozen i).trans (h.fr i), fresh_turn0 hs ht, hl.kept ht.block⟩, fun W h0 hv => ((((h0.set _ _ (by omega) (by omega)).set _ _ (by omega) (by omega) hv).set _ _ (by omega) (by omega) (fun k e => by rw [hl.none] at e; cases e)).set _ _ (by omega) (by omega)).set _ _ (by omega) (by omega)⟩
  · rw [ne (by omega), ne (by omega), ne (by omega), ne (by omega)]; exact World.cell?_setCell_same _ _ _ h.c0
  · rw [ne (by omega), ne (by omega), ne (by omega)]; exact World.cell?_setCell_same _ _ _ ((ne (by omega)).trans h.c1)
  · rw [ne (by omega), ne (by omega)]; exact World.cell?_setCell_same _ _ _ ((ne (by omega)).trans ((ne (by omega)).trans h.c2))
  · rw [ne (by omega)]; exact World.cell?_setCell_same _ _ _ ((ne (by omega)).trans ((ne (by omega)).trans ((ne (by omega)).trans h.c3)))
  · exact World.cell?_setCell_same _ _ _ ((ne (by omega)).trans ((ne (by omega)).trans ((ne (by omega)).trans ((ne (by omega)).trans h.c4))))
/-- How many bytes are left of a log. -/
def keptN (r : RS) (keep : Int) : Nat := r.la + min (max keep 0).toNat (logSize r.log - r.la)
/-- What Crash makes of a replica. -/
def crashOf (r : RS) (keep : Int) : RS := ⟨false, [], [BA ((logB r.log).take (keptN r keep))], keptN r keep⟩
theorem keptN_le {r : RS} (h : r.la ≤ logSize r.log) (keep : Int) : keptN r keep ≤ logSize r.log := by unfold keptN; omega
theorem crash_size {r : RS} (h : r.la ≤ logSize r.log) (keep : Int) : (BA ((logB r.log).take (keptN r keep))).size = keptN r keep := by
  rw [BA_size, List.length_take, logB_length]
  have := keptN_le h keep
  omega

set_option maxRecDepth 100000 in
set_option maxHeartbeats 1000000 in
theorem crash_any (W : World) (cb o M : Nat) (r : RS) (sv lp : Value) (keep : Int) (h : RepAt W cb o r sv lp) (hk : RepOk M r) (hM : M ≤ 40000000000000) (hk1 : -9223372036854775808 ≤ keep) (hk2 : keep ≤ 9223372036854775807) :
    Calls Tryz.prog 64 #[.pointer (some ⟨cb, o, none⟩), .int .i64 keep] W fun e w' => ∃ sv' lp', e = .returned (.tuple #[]) ∧ RepAt w' cb o (crashOf r keep) sv' lp' ∧ Turn W w' cb o (o + 5) := by
  have c3 := h.c3
  have c4 := h.c4
  have hlt := h.lt
  have hla := hk.la
  have hlen := hk.len
  have C : Hid (∀ W2, Below W.heap.size W W2 → Calls Tryz.prog 66 #[.pointer (some ⟨cb, o, none⟩)] W2 fun e w' => e = .returned (.string (BA (logB r.log))) ∧ Below W.heap.size W w') := fun W2 h2 => (rLog_any W2 cb o r sv lp (h.below h2) (by omega)).mono fun e w' h3 => ⟨h3.1, h2.trans (h3.2.mono h2.size)⟩
  have H := hide h
  have HK := hide hk
  have hbl : (BA (logB r.log)).size = logSize r.log := by rw [BA_size, logB_length]
  clear h hk
  go_enter Tryz.func64, Tryz.ntmps64
  have hcs := crash_size HK.out.la keep
  have hkl := keptN_le HK.out.la keep
  have HCr : Hid (crashOf r keep = ⟨false, [], [BA ((logB r.log).take (keptN r keep))], keptN r keep⟩) := rfl
  have HX : Hid ((BA (logB r.log)).extract 0 (keptN r keep) = BA ((logB r.log).take (keptN r keep))) := by
    show _ = _
    apply ByteArray.ext
    rw [ByteArray.data_extract]
    apply Array.ext'
    simp [BA]
  go_wp2
  go_region
  obtain ⟨kn, hkn⟩ : ∃ kn : Nat, min (max keep 0) ((logSize r.log : Int) - (r.la : Int)) = (kn : Int) := ⟨(min (max keep 0) ((logSize r.log : Int) - (r.la : Int))).toNat, by omega⟩
  have hkq : keptN r keep = r.la + kn := by unfold keptN; omega
  rw [hkn]
  rw [hkq] at hcs hkl HCr HX
  clear hkn hkq
  generalize hB : BA ((logB r.log).take (r.la + kn)) = left at *
  generalize hA : BA (logB r.log) = all at *
  clear hB hA
  generalize hL : logSize r.log = ls at *
  clear hL
  generalize hq : r.la = la at *
  clear hq
  have i1 : (la : Int) + (kn : Int) ≤ (all.size : Int) := by omega
  have htn : ((la : Int) + (kn : Int)).toNat = la + kn := by omega
  have hwr : IntKind.i64.wrap ((la : Int) + (kn : Int)) = (la : Int) + (kn : Int) := by rw [IntKind.wrap_i64]; omega
  have i0 : 0 ≤ (la : Int) + (kn : Int) := by omega
  have HBl := hide hbl
  have HCs : Hid (left.size = la + kn) := hcs
  have hlk : la + kn ≤ 40000000000000 := by omega
  clear hbl hla hkl hcs hlen
  have HX2 := HX.out
  go_wp2
  as_aux_lemma =>
    go_region_held3 (fun w' => w'.cell? ⟨cb, o + 4, none⟩ = some (.int .i64 la)) (go_keep) (first | (go_at_call 66; refine (C.out _ (by first | exact (Below.refl _ _).drew.drew | exact (Below.refl _ _).drew | exact Below.refl _ _)).mono ?_; rintro e w6 ⟨rfl, hb6⟩; have x1 := (hb6.cell (p := ⟨cb, o + 4, none⟩) hlt).trans c4) | fail)
    all_goals
      have H6 := hide (H.out.below hb6)
      have hs6 := hb6.size
      have C2 : Hid (Calls Tryz.prog 95 #[.agg #[.pointer none, .int .i64 0], .string left] w6 fun e w' => e = .returned (.agg #[.pointer (some ⟨w6.heap.size + 2, 0, none⟩), .int .i64 (left.size : Int)]) ∧ Blk w' (w6.heap.size + 2) 182 [.pointer none, .string left] ∧ Below w6.heap.size w6 w') := by
        have h1 := logWith_any w6 none 0 left (by have := HCs.out; omega)
        exact hide (by simpa using h1)
      have HB6 := hide hb6
      clear hb6 x1 C c3 c4
      go_wp2_with fail
      refine C2.out.mono ?_
      rintro e w7 ⟨rfl, hp7, hb7⟩
      have H7 := hide (H6.out.below hb7)
      have HL7 : Hid (LogAt w7 cb [left] (.pointer (some ⟨w6.heap.size + 2, 0, none⟩))) := ⟨_, _, rfl, ⟨by omega, Nat.zero_le _⟩, hp7, rfl⟩
      have HTn := hide (Turn.of_below (lo := o) (hi := o + 5) (HB6.out.trans (hb7.mono hs6)) hlt)
      have d0 := H7.out.c0
      have d1 := H7.out.c1
      have d2 := H7.out.c2
      have d3 := H7.out.c3
      have d4 := H7.out.c4
      have g0 := H7.out.fr o
      have g1 := H7.out.fr (o + 1)
      have g2 := H7.out.fr (o + 2)
      have g3 := H7.out.fr (o + 3)
      have g4 := H7.out.fr (o + 4)
      have HWh := hide (H7.out.whole (r' := ⟨false, [], [left], la + kn⟩) (sv' := .slice none 0 0) ⟨[], World.ownsRow_nil _ _ _ _, Sers.nil _ _⟩ HL7.out)
      have hls : logSize [left] = left.size := by simp [logSize]
      simp only [hls, ← HCs.out, upI] at HWh
      clear hp7 hb7 C2 H6 H7 HL7 HB6 hls
      go_wp2
      go_end0
      rw [HCr.out, ← HCs.out]
      exact ⟨_, _, rfl, HWh.out.1, HWh.out.2 W HTn.out (fun k e => by cases e)⟩

/-- What Restart makes of a replica, and its answer. -/
def RestartOf (r : RS) (n : Nat) (r' : RS) : Prop := (r.up = true ∧ n = 6 ∧ r' = r) ∨ (r.up = false ∧ n = 0 ∧ ∃ bss z j m, RowOf (logB r.log) bss z ∧ IsJoin bss j ∧ Code j m ∧ r' = ⟨true, if m = 0 then j else [], [BA ((logB r.log).take z)], z⟩)
def RestEnd (W w' : World) (cb o : Nat) (r : RS) (e : Ending) : Prop := ∃ (n : Nat) (r' : RS) (sv' lp' : Value), e = .returned (.int .i64 n) ∧ RestartOf r n r' ∧ RepAt w' cb o r' sv' lp' ∧ Turn W w' cb o (o + 5)
theorem got_range (l : List UInt8) : InRange (got l) := (payR_small (BA (inner l))).2
theorem row_ok {s : List UInt8} {bss : List (List Ser)} {n : Nat} (h : RowOf s bss n) : ∀ b ∈ bss, BatchOk b ∧ LimitsOk b ∧ InRange b := by
  induction h using RowOf.ind with
  | stop => intro b hb; cases hb
  | next s bss n hf _ ih =>
    intro b hb
    rcases List.mem_cons.1 hb with hb | hb
    · rw [hb]; exact ⟨hf.batch, hf.limits, got_range _⟩
    · exact ih b hb
theorem rows_size {bss : List (List Ser)} (h : ∀ b ∈ bss, LimitsOk b) : bss.flatten.length ≤ 8 * bss.length ∧ samN bss.flatten ≤ 320 * bss.length := by
  have h1 := flat_len fun bs hbs => (h bs hbs).2
  have h2 := samN_le (bs := bss.flatten) fun s hs => by
    obtain ⟨l, hl, hs⟩ := List.mem_flatten.1 hs
    exact (limits_mem (h l hl) s hs).2
  exact ⟨h1, by omega⟩

set_option maxRecDepth 100000 in
set_option maxHeartbeats 1000000 in
theorem restart_any (W : World) (cb o M : Nat) (r : RS) (sv lp : Value) (h : RepAt W cb o r sv lp) (hlen : logSize r.log ≤ M) (hM : M ≤ 1000000000) (hT : Tabs W) (hcb : 2 < cb) :
    Calls Tryz.prog 60 #[.pointer (some ⟨cb, o, none⟩)] W fun e w' => RestEnd W w' cb o r e := by
  have C := hide (isUp_any W cb o r sv lp h)
  have C2 := hide (rLog_any W cb o r sv lp h (by omega))
  have hlt := h.lt
  have H := hide h
  have HT := hide hT
  have hbl : (BA (logB r.log)).size = logSize r.log := by rw [BA_size, logB_length]
  have HBl := hide hbl
  clear h hT
  cases hu : r.up with
  | true =>
    have HU := hide hu
    rw [hu] at C
    clear hu C2 hbl
    go_enter Tryz.func60, Tryz.ntmps60
    go_wp2_with fail
    refine C.out.mono ?_
    rintro e w1 ⟨rfl, rfl⟩
    go_wp2
    go_ret
    exact ⟨6, r, sv, lp, rfl, .inl ⟨HU.out, rfl, rfl⟩, H.out, Turn.refl _ _ _ _⟩
  | false =>
    have HU := hide hu
    rw [hu] at C
    clear hu
    obtain ⟨all, hall⟩ : ∃ all, all = BA (logB r.log) := ⟨_, rfl⟩
    have hd : all.data.toList = logB r.log := by rw [hall, BA_list]
    rw [← hall] at C2 hbl HBl
    have HD := hide hd
    have hsz : all.size ≤ 1000000000 := by omega
    clear hall hd hbl
    go_enter Tryz.func60, Tryz.ntmps60
    go_wp2_with fail
    refine C.out.mono ?_
    rintro e w1 ⟨rfl, rfl⟩
    go_wp2_with fail
    refine C2.out.mono ?_
    rintro e w1 ⟨rfl, hb1⟩
    have hs1 := hb1.size
    have HB1 := hide hb1
    have C3 := hide (unpackRow_any w1 all (by omega) (HT.out.below hb1 (by omega)))
    clear hb1 C C2
    go_wp2_with fail
    refine C3.out.mono ?_
    rintro e w2 ⟨bss, z, bv, rfl, hrow, hz, h11, hrows, hb2⟩
    have hs2 := hb2.size
    have HB2 := hide (HB1.out.trans (hb2.mono hs1))
    have hok := row_ok hrow
    have hbz := rows_size fun b hb => (hok b hb).2.1
    have C4 := hide (joinAll_any w2 bv bss hrows (fun b hb => (hok b hb).1) (fun s hs => by
      obtain ⟨l, hl, hs⟩ := List.mem_flatten.1 hs
      exact ⟨fit_of (hok l hl).1 (hok l hl).2.1 s hs, (hok l hl).2.2 s hs⟩) (by omega) (by omega) (by omega))
    obtain ⟨ba, bc, rfl, -⟩ := id hrows
    have HRow := hide hrow
    clear hrow hrows hb2 hok hbz C3 HB1
    go_wp2_with fail
    refine C4.out.mono ?_
    rintro e w3 ⟨j, m, hj, hm, hb3, hr⟩
    have hs3 := hb3.size
    have HB3 := hide (HB2.out.trans (hb3.mono (by omega)))
    have HJ := hide hj
    have HM := hide hm
    have i1 : (z : Int) ≤ (all.size : Int) := by omega
    obtain ⟨left, hle⟩ : ∃ left, left = all.extract 0 z := ⟨_, rfl⟩
    have hll : left = BA ((logB r.log).take z) := by
      rw [hle, ← HD.out]
      apply ByteArray.ext
      rw [ByteArray.data_extract]
      apply Array.ext'
      simp [BA]
    have hls : left.size = z := by rw [hle, ByteArray.size_extract]; omega
    have HLe := hide hle
    have HLl := hide hll
    have HLs := hide hls
    have H3 := hide (H.out.below HB3.out)
    have C5 : Hid (Calls Tryz.prog 95 #[.agg #[.pointer none, .int .i64 0], .string left] w3 fun e w' => e = .returned (.agg #[.pointer (some ⟨w3.heap.size + 2, 0, none⟩), .int .i64 (left.size : Int)]) ∧ Blk w' (w3.heap.size + 2) 182 [.pointer none, .string left] ∧ Below w3.heap.size w3 w') := by
      have h1 := logWith_any w3 none 0 left (by omega)
      exact hide (by simpa using h1)
    have HFs : Hid (∃ xa xc, (m = 0 ∧ e = .returned (.tuple #[.slice xa j.length xc, .int .i64 0]) ∧ Fresh w3 (cb + 1) (.slice xa j.length xc) j ∧ ∀ k, (Value.slice xa j.length xc).ownBlock = some k → W.heap.size ≤ k) ∨ (m ≠ 0 ∧ e = .returned (.tuple #[.slice none 0 0, .int .i64 m]))) := by
      rcases hr with ⟨rfl, jv, rfl, hF⟩ | ⟨hm0, rfl⟩
      · have hF2 : Fresh w3 (cb + 1) jv j := fresh_mono hF.fresh (by omega)
        have hnw : ∀ k, jv.ownBlock = some k → W.heap.size ≤ k := fun k e => by
          obtain ⟨vals, ho, hs⟩ := hF.fresh
          have h1 := (World.ownsRow.lt ho k e).1
          omega
        obtain ⟨xa, xc, rfl⟩ := fresh_shape hF2
        exact ⟨xa, xc, .inl ⟨rfl, rfl, hF2, hnw⟩⟩
      · exact ⟨none, 0, .inr ⟨hm0, rfl⟩⟩
    obtain ⟨xa, xc, hFs⟩ := HFs.out
    clear hr hj hm hb3 C4 HB2 hle hll hls HFs
    have HFin : Hid (∀ (sv' : Value) (bs : List Ser) (w4 : World), (if m = 0 then j else []) = bs → Fresh w4 (cb + 1) sv' bs → (∀ k, sv'.ownBlock = some k → W.heap.size ≤ k) → Below w3.heap.size w3 w4 → Blk w4 (w3.heap.size + 2) 182 [.pointer none, .string left] →
        RestEnd W (((((w4.setCell ⟨cb, o, none⟩ (.int .i64 0)).setCell ⟨cb, o + 1, none⟩ sv').setCell ⟨cb, o + 2, none⟩ (.pointer (some ⟨w3.heap.size + 2, 0, none⟩))).setCell ⟨cb, o + 3, none⟩ (.int .i64 (left.size : Int))).setCell ⟨cb, o + 4, none⟩ (.int .i64 z)) cb o r (.returned (.int .i64 0))) := fun sv' bs w4 hbs hfr hnw hb4 hp4 => by
      have H4 := H3.out.below hb4
      have hL4 : LogAt w4 cb [left] (.pointer (some ⟨w3.heap.size + 2, 0, none⟩)) := ⟨_, _, rfl, ⟨by omega, Nat.zero_le _⟩, hp4, rfl⟩
      have hwh := H4.whole (r' := ⟨true, bs, [left], z⟩) (sv' := sv') hfr hL4
      have hls : logSize [left] = left.size := by simp [logSize]
      simp only [hls, upI] at hwh
      refine ⟨0, ⟨true, bs, [left], z⟩, _, _, rfl, .inr ⟨HU.out, rfl, bss, z, j, m, by rw [← HD.out]; exact HRow.out, HJ.out, HM.out, ?_⟩, hwh.1, hwh.2 W (Turn.of_below (HB3.out.trans (hb4.mono (by omega))) hlt) hnw⟩
      rw [hbs, ← HLl.out]
    rcases hFs with ⟨rfl, rfl, hF, hnw⟩ | ⟨hm0, rfl⟩
    · have HF := hide hF
      have HNw := hide hnw
      have hx := HLe.out
      clear hF hnw
      go_wp2_with fail
      rw [← hx]
      refine C5.out.mono ?_
      rintro e w4 ⟨rfl, hp4, hb4⟩
      have H4 := hide (H3.out.below hb4)
      have d0 := H4.out.c0
      have d1 := H4.out.c1
      have d2 := H4.out.c2
      have d3 := H4.out.c3
      have d4 := H4.out.c4
      have g0 := H4.out.fr o
      have g1 := H4.out.fr (o + 1)
      have g2 := H4.out.fr (o + 2)
      have g3 := H4.out.fr (o + 3)
      have g4 := H4.out.fr (o + 4)
      have HEnd := hide (HFin.out _ j w4 (by simp) (fresh_kept HF.out hb4) HNw.out hb4 hp4)
      clear hp4 hb4 C5 HFin HF hx
      go_wp2
      go_ret
      exact HEnd.out
    · have hx := HLe.out
      go_wp2_with fail
      rw [← hx]
      refine C5.out.mono ?_
      rintro e w4 ⟨rfl, hp4, hb4⟩
      have H4 := hide (H3.out.below hb4)
      have d0 := H4.out.c0
      have d1 := H4.out.c1
      have d2 := H4.out.c2
      have d3 := H4.out.c3
      have d4 := H4.out.c4
      have g0 := H4.out.fr o
      have g1 := H4.out.fr (o + 1)
      have g2 := H4.out.fr (o + 2)
      have g3 := H4.out.fr (o + 3)
      have g4 := H4.out.fr (o + 4)
      have HEnd := hide (HFin.out (.slice none 0 0) [] w4 (if_neg hm0) ⟨[], World.ownsRow_nil _ _ _ _, Sers.nil _ _⟩ (fun k e => by cases e) hb4 hp4)
      clear hp4 hb4 C5 HFin hx
      go_wp2
      go_ret
      exact HEnd.out
end Go.Proofs.YtamcclcbmenjdaaGreatDoor

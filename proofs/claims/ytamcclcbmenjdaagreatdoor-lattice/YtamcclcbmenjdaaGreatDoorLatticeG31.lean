/- 'choirkeep.Lattice', for any three lists of raw samples: joins do not hang on order, grouping and how often; with bytes and without it is the same. The first form's statement and its card: no condition beside the row's own. -/
import Derived.Test.YtamcclcbmenjdaaGreatDoorLatticeG30
import Derived.Test.YtamcclcbmenjdaaGreatDoorLatticeG18
import Derived.Test.YtamcclcbmenjdaaGreatDoorLatticeG11
import Derived.Test.YtamcclcbmenjdaaGreatDoorLatticeG4
import Derived.Deep.DeepAppendRoom
import Derived.Test.YtamcclcbmenjdaaGreatDoorLatticeG19
import Derived.Test.YtamcclcbmenjdaaGreatDoorLatticeG21
/- choir.Join. -/
namespace Go.Proofs.YtamcclcbmenjdaaGreatDoor
open Go.RowKit Go.Lib

theorem limits_mem {bs : List Ser} (h : LimitsOk bs) : ∀ s ∈ bs, s.1.length ≤ 4 ∧ s.2.length ≤ 40 := fun s hs => by
  obtain ⟨i, hi, e⟩ := List.mem_iff_getElem.1 hs
  exact h.1 i s hi (by rw [List.getElem?_eq_getElem hi, e])
theorem samN_le {bs : List Ser} (h : ∀ s ∈ bs, s.2.length ≤ 40) : samN bs ≤ 40 * bs.length := by
  induction bs with
  | nil => simp [samN]
  | cons s r ih =>
    have h1 := h s (List.mem_cons_self ..)
    have h2 := ih fun x hx => h x (List.mem_cons_of_mem _ hx)
    have e : samN (s :: r) = s.2.length + samN r := by simp [samN]
    rw [e, List.length_cons]; omega
theorem fit_of {bs : List Ser} (h : BatchOk bs) (g : LimitsOk bs) : ∀ s ∈ bs, SerFit s := fun s hs => by
  rw [batchOk_iff] at h
  have h1 := h.1 s hs
  refine ⟨by have := (limits_mem g s hs).1; omega, fun t ht => ?_, SLt_cmp ((samplesOk_iff _).1 h1.2).2⟩
  obtain ⟨i, hi, e⟩ := List.mem_iff_getElem.1 ht
  have := h1.1.1 i t hi (by rw [List.getElem?_eq_getElem hi, e])
  exact ⟨Nat.le_trans this.2.1 (by decide), Nat.le_trans this.2.2 (by decide)⟩
theorem BatchAt.ranged {w : World} {B : Nat} {v : Value} {bs : List Ser} (h : BatchAt w B v bs) : ∀ s ∈ bs, Ranged s := fun s hs => by
  obtain ⟨i, hi, e⟩ := List.mem_iff_getElem.1 hs
  obtain ⟨a, c, rfl, -⟩ := id h
  obtain ⟨_, _, _, _, _, _, _, _, _, hS⟩ := batchGet h (j := i) (x := s) (by rw [List.getElem?_eq_getElem hi, e])
  exact hS.choose_spec.choose_spec.2.2.1
theorem BatchAt.wider {w : World} {B B' : Nat} {v : Value} {bs : List Ser} (h : BatchAt w B v bs) (hB : B ≤ B') : BatchAt w B' v bs := by
  obtain ⟨a, c, hv, hc, h2⟩ := h
  refine ⟨a, c, hv, hc, h2.imp id fun ⟨b, o, ha, hb, hcell⟩ => ⟨b, o, ha, by omega, fun i x hx => ?_⟩⟩
  obtain ⟨lv, sv, h1, h2, h3, h4⟩ := hcell i x hx
  exact ⟨lv, sv, h1, h2, h3.wider hB, h4.wider hB⟩
/-- What Join answers: the error and the join. -/
def JoinOf (a b : List Ser) (n : Nat) (j : List Ser) : Prop :=
  (n = 1 ∧ ¬ (BatchOk a ∧ BatchOk b)) ∨ (n = 2 ∧ BatchOk a ∧ BatchOk b ∧ ¬ (LimitsOk a ∧ LimitsOk b)) ∨ (BatchOk a ∧ BatchOk b ∧ LimitsOk a ∧ LimitsOk b ∧ IsJoin [a, b] j ∧ Code j n)
theorem two_all {a b : List Ser} {p : List Ser → Prop} : (∀ bs ∈ [a, b], p bs) ↔ p a ∧ p b := by simp
theorem two_get {a b : List Ser} {p : Nat → List Ser → Prop} (h0 : p 0 a) (h1 : p 1 b) : ∀ i bs, [a, b][i]? = some bs → p i bs := fun i bs h => by
  match i, h with
  | 0, h => simp at h; subst h; exact h0
  | 1, h => simp at h; subst h; exact h1
  | i + 2, h => simp at h

set_option maxRecDepth 100000 in
set_option maxHeartbeats 1000000 in
theorem join_any (W : World) (va vb : Value) (a b : List Ser) (ha : BatchAt W W.heap.size va a) (hb : BatchAt W W.heap.size vb b) (hsa : Small a) (hsb : Small b) :
    Calls Tryz.prog 52 #[va, vb] W fun e w' => ∃ n j, JoinOf a b n j ∧ Below W.heap.size W w' ∧ ((n = 0 ∧ ∃ jv, e = .returned (.tuple #[jv, .int .i64 0]) ∧ Fresh w' W.heap.size jv j) ∨ (n ≠ 0 ∧ e = .returned (.tuple #[.slice none 0 0, .int .i64 n]))) := by
  obtain ⟨aa, ac, rfl, -⟩ := id ha
  obtain ⟨ba, bc, rfl, -⟩ := id hb
  have C1 := hide (checks_any W.heap.size W.heap.size 0 2 [a, b] (W.alloc (.cells #[.slice aa a.length ac, .slice ba b.length bc] 39))
    (two_get ⟨_, World.cell?_alloc_new _ _ _ 0, ha.kept fun k hk => heap_alloc_old W _ hk⟩ ⟨_, World.cell?_alloc_new _ _ _ 1, hb.kept fun k hk => heap_alloc_old W _ hk⟩) (by simp) (by simp) (two_all.2 ⟨hsa, hsb⟩) (by simp))
  have HA := hide ha
  have HB := hide hb
  clear ha hb hsa hsb
  go_enter Tryz.func52, Tryz.ntmps52
  go_wp2_with fail
  refine C1.out.mono ?_
  rintro e w1 ⟨⟨n, rfl, hn⟩, hb1⟩
  have hb01 : Below W.heap.size W w1 := ((Below.refl _ _).alloc (Nat.le_refl _) _).trans (hb1.mono (by simp))
  have hs1 := hb01.size
  have HB1 := hide hb01
  have HC := hide hn
  clear C1 hb1 hb01 hn
  by_cases h0 : n = 0
  · subst h0
    obtain ⟨hok, hlim⟩ : (∀ bs ∈ [a, b], BatchOk bs) ∧ ∀ bs ∈ [a, b], LimitsOk bs := by
      rcases HC.out with ⟨h, _⟩ | ⟨h, _⟩ | ⟨_, h⟩
      · cases h
      · cases h
      · exact h
    have hA1 := HA.out.below HB1.out (Nat.le_refl _)
    have hB1 := HB.out.below HB1.out (Nat.le_refl _)
    have hfit : ∀ s ∈ ([a, b] : List (List Ser)).flatten, SerFit s ∧ Ranged s := fun s hs => by
      obtain ⟨l, hl, hs⟩ := List.mem_flatten.1 hs
      refine ⟨fit_of (hok l hl) (hlim l hl) s hs, ?_⟩
      rcases List.mem_cons.1 hl with e | hl
      · rw [e] at hs; exact HA.out.ranged s hs
      · rw [List.mem_singleton.1 hl] at hs; exact HB.out.ranged s hs
    have hla := (two_all.1 hlim).1
    have hlb := (two_all.1 hlim).2
    have hfl : ([a, b] : List (List Ser)).flatten.length ≤ 16 := by
      have h1 := hla.2; have h2 := hlb.2; simp; omega
    have hsam : samN ([a, b] : List (List Ser)).flatten ≤ 640 := by
      refine Nat.le_trans (samN_le fun s hs => ?_) (by omega)
      obtain ⟨l, hl, hs⟩ := List.mem_flatten.1 hs
      exact (limits_mem (hlim l hl) s hs).2
    have hrows : RowsR (w1.alloc (.cells #[.slice aa a.length ac, .slice ba b.length bc] 39)) (.slice (some ⟨w1.heap.size, 0, none⟩) 2 2) [a, b] :=
      ⟨_, _, rfl, two_get ⟨w1.heap.size, 0, aa, ac, rfl, by simp, World.cell?_alloc_new _ _ _ 0, (hA1.wider hs1).kept (fun k hk => heap_alloc_old w1 _ hk) |>.wider (by simp)⟩ ⟨w1.heap.size, 0, ba, bc, rfl, by simp, World.cell?_alloc_new _ _ _ 1, (hB1.wider hs1).kept (fun k hk => heap_alloc_old w1 _ hk) |>.wider (by simp)⟩⟩
    have C2 := hide (joinAll_any _ _ [a, b] hrows hok hfit (by simp) (by omega) (by omega))
    have HOk : Hid (BatchOk a ∧ BatchOk b ∧ LimitsOk a ∧ LimitsOk b) := ⟨(two_all.1 hok).1, (two_all.1 hok).2, hla, hlb⟩
    clear hA1 hB1 hfit hla hlb hfl hsam hrows hok hlim HA HB HC
    go_wp2_with fail
    refine C2.out.mono ?_
    rintro e w2 ⟨j, m, hj, hm, hb2, hr⟩
    have hb12 : Below W.heap.size W w2 := HB1.out.trans ((((Below.refl _ _).alloc (Nat.le_refl _) _).trans (hb2.mono (by simp))).mono hs1)
    have HB2 := hide hb12
    have HR : Hid (JoinOf a b m j) := .inr (.inr ⟨HOk.out.1, HOk.out.2.1, HOk.out.2.2.1, HOk.out.2.2.2, hj, hm⟩)
    clear C2 HOk hj hm hb12
    rcases hr with ⟨rfl, jv, rfl, hF⟩ | ⟨hm0, rfl⟩
    · have HF : Hid (Fresh w2 W.heap.size jv j) := by
        obtain ⟨vals, h1, h2⟩ := hF
        exact ⟨vals, own_mono h1 (by simp; omega), h2.1, fun i p x hp hx => ⟨own_mono (h2.2 i p x hp hx).1 (by simp; omega), own_mono (h2.2 i p x hp hx).2 (by simp; omega)⟩⟩
      clear hF hb2
      go_wp2
      go_ret2
      exact ⟨0, j, HR.out, HB2.out, .inl ⟨rfl, _, rfl, HF.out⟩⟩
    · clear hb2
      go_wp2
      go_ret2
      exact ⟨m, j, HR.out, HB2.out, .inr ⟨hm0, rfl⟩⟩
  · have h1 : ¬ (n : Int) = 0 := by omega
    have h2 : ((n : Int) == 0) = false := by simp [h0]
    have HR : Hid (JoinOf a b n []) := by
      rcases HC.out with ⟨rfl, h⟩ | ⟨rfl, h, g⟩ | ⟨rfl, _⟩
      · exact .inl ⟨rfl, fun g => h (two_all.2 g)⟩
      · exact .inr (.inl ⟨rfl, (two_all.1 h).1, (two_all.1 h).2, fun k => g (two_all.2 k)⟩)
      · exact absurd rfl h0
    go_wp2
    go_ret2
    exact ⟨n, [], HR.out, HB1.out, .inr ⟨h0, rfl⟩⟩
end Go.Proofs.YtamcclcbmenjdaaGreatDoor

/- choir.Merge. -/
namespace Go.Proofs.YtamcclcbmenjdaaGreatDoor
open Go.RowKit Go.Lib

theorem Tryz.infoSers : (Tryz.prog.info? 39).map (fun i => (i.zero, i.size, i.bytes)) = some (some (.slice none 0 0), 1, 24) := by kernel_rfl
/-- A row of texts in memory. -/
def FramesAt (w : World) (v : Value) (fs : List ByteArray) : Prop :=
  ∃ a cap, v = .slice a fs.length cap ∧ ∀ i s, fs[i]? = some s → ∃ b o, a = some ⟨b, o, none⟩ ∧ b < w.heap.size ∧ w.cell? ⟨b, o + i, none⟩ = some (.string s)
/-- The batches of frames. -/
def gots (fs : List ByteArray) : List (List Ser) := fs.map fun s => got s.data.toList
theorem ranged_join {bss : List (List Ser)} {j : List Ser} (h : ∀ bs ∈ bss, ∀ s ∈ bs, Ranged s) (hj : IsJoin bss j) : ∀ s ∈ j, Ranged s := fun s hs x hx => by
  obtain ⟨⟨bs, hbs, r, hr, _, hm⟩, _⟩ := (hj.holds s.1 x.1 x.2).1 ⟨s, hs, rfl, hx⟩
  exact h bs hbs r hr _ hm
theorem flat_len {bss : List (List Ser)} (h : ∀ bs ∈ bss, bs.length ≤ 8) : bss.flatten.length ≤ 8 * bss.length := by
  induction bss with
  | nil => simp
  | cons a r ih =>
    have h1 := h a (List.mem_cons_self ..)
    have h2 := ih fun x hx => h x (List.mem_cons_of_mem _ hx)
    rw [List.flatten_cons, List.length_append, List.length_cons]; omega
theorem Fresh.kept {w w' : World} {base : Nat} {v : Value} {bs : List Ser} (h : Fresh w base v bs) (hk : ∀ k, base ≤ k → k < w.heap.size → w'.heap[k]? = w.heap[k]?) : Fresh w' base v bs := by
  obtain ⟨vals, h1, h2⟩ := h
  exact ⟨vals, own_kept h1 fun k e => hk k (World.ownsRow.lt h1 k e).1 (World.ownsRow.lt h1 k e).2, h2.kept hk⟩
theorem Fresh.mono {w : World} {base base' : Nat} {v : Value} {bs : List Ser} (h : Fresh w base v bs) (hb : base' ≤ base) : Fresh w base' v bs := by
  obtain ⟨vals, h1, h2⟩ := h
  exact ⟨vals, own_mono h1 hb, h2.1, fun i p x hp hx => ⟨own_mono (h2.2 i p x hp hx).1 hb, own_mono (h2.2 i p x hp hx).2 hb⟩⟩
theorem Fresh.shape {w : World} {base : Nat} {v : Value} {bs : List Ser} (h : Fresh w base v bs) : ∃ a c, v = .slice a bs.length c := by
  obtain ⟨vals, h1, _⟩ := h
  exact own_shape h1
theorem one_cells (w : World) (u : Value) (t : TypeId) : ∀ j x, [u][j]? = some x → (w.alloc (.cells #[u] t)).cell? ((⟨w.heap.size, 0, none⟩ : Addr).add j) = some x := cells_new w [u] t
/-- What Merge answers. -/
def MergeOf (fs : List ByteArray) (e : Ending) : Prop :=
  ((∀ s ∈ fs, IsFrame s.data.toList) ∧ ∃ j n, IsJoin (gots fs) j ∧ Code j n ∧ e = .returned (.tuple #[.string (if n = 0 then ⟨(frameOf (payload j)).toArray⟩ else ByteArray.empty), .int .i64 n])) ∨ ((¬ ∀ s ∈ fs, IsFrame s.data.toList) ∧ e = .returned (.tuple #[.string ByteArray.empty, .int .i64 3]))

set_option maxRecDepth 100000 in
set_option maxHeartbeats 1000000 in
theorem merge_any (W : World) (v : Value) (fs : List ByteArray) (hv : FramesAt W v fs) (hs : ∀ s ∈ fs, s.size ≤ 140737488355328) (hn : fs.length ≤ 10000000) (hT : Tabs W) :
    Calls Tryz.prog 11 #[v] W fun e w' => MergeOf fs e ∧ Below W.heap.size W w' := by
  obtain ⟨i0, hi, hz0, hz1, hz2⟩ := info_parts Tryz.infoSers
  obtain ⟨va, vc, rfl, hv⟩ := hv
  have h3 := hT.lt
  have HV := hide hv
  have HS := hide hs
  have HT := hide hT
  clear hv hs hT
  go_enter Tryz.func11, Tryz.ntmps11
  go_wp2_with (first | (at_make; refine wpList_make_own _ rfl _ _ 24 rfl W.heap.size 39 i0 _ 1 Tryz.underlying24 hi hz0 hz1 .i64 .i64 _ fs.length rfl rfl rfl (by rw [hz2]; omega) (by unfold maxLen; omega) (by simp) ?_; intro w2 hown2 hgrow2))
  have HO2 := hide hown2
  have HB2 : Hid (Below W.heap.size W w2) := (Below.refl _ _).grown hgrow2 (Nat.le_refl _) (fun k e => (by cases e))
  clear hown2 hgrow2
  go_wp2
  go_loopw [4, 6, 7, 8, 16] (fun bv _ _ _ i wr => ∃ (k : Nat) (vs : List Value), k ≤ fs.length ∧ i = .int .i64 k ∧ bv = .slice (some ⟨W.heap.size, 0, none⟩) k fs.length ∧ Hid (vs.length = k) ∧ Hid (wr.ownsRow W.heap.size 39 1 (.slice (some ⟨W.heap.size, 0, none⟩) k fs.length) k vs) ∧ Hid (∀ (i : Nat) (u : Value) (s : ByteArray), vs[i]? = some u → fs[i]? = some s → IsFrame s.data.toList ∧ Fresh wr (W.heap.size + 1) u (got s.data.toList)) ∧ Hid (Below W.heap.size W wr)) (fun _ _ _ _ i _ => fs.length - (intOf i).toNat)
  case atStart => exact ⟨0, [], Nat.zero_le _, rfl, rfl, rfl, by show w2.ownsRow _ _ _ _ _ _; simpa using HO2.out, (fun i u s h _ => by simp at h), HB2.out⟩
  case round =>
    clear HO2 HB2
    obtain ⟨k, vs, hk, rfl, rfl, HVl, HO, HF, HB⟩ := hrel
    have hws := HB.out.size
    have hgl := (World.ownsRow.lt HO.out W.heap.size rfl).2
    by_cases hlt : k < fs.length
    · obtain ⟨s, hx⟩ : ∃ s, fs[k]? = some s := ⟨_, List.getElem?_eq_getElem hlt⟩
      obtain ⟨b, o, rfl, hb0, c0⟩ := HV.out k s hx
      have k0 := (HB.out.cell (p := ⟨b, o + k, none⟩) hb0).trans c0
      have hss := HS.out s (List.mem_of_getElem? hx)
      have hTr := HT.out.below HB.out h3
      have C := hide (unpack_any s wr hss hTr)
      have HX := hide hx
      have i1 : (k : Int) < (fs.length : Int) := by omega
      clear c0 hx hTr
      go_wp2_with fail
      refine C.out.mono ?_
      rintro e w3 ⟨⟨hF, u, rfl, hf3⟩ | ⟨hno, rfl⟩, hb3⟩
      · have hs3 := hb3.size
        obtain ⟨ua, uc, rfl⟩ := hf3.shape
        have HO3 := hide (own_kept HO.out (w' := w3) fun q e => by cases e; exact hb3.block _ hgl)
        have HF3 : Hid (∀ (i : Nat) (u : Value) (s : ByteArray), vs[i]? = some u → fs[i]? = some s → IsFrame s.data.toList ∧ Fresh w3 (W.heap.size + 1) u (got s.data.toList)) := fun i u s h1 h2 => ⟨(HF.out i u s h1 h2).1, (HF.out i u s h1 h2).2.kept fun q _ hq => hb3.block q hq⟩
        have HFu : Hid (IsFrame s.data.toList ∧ Fresh w3 (W.heap.size + 1) (.slice ua (got s.data.toList).length uc) (got s.data.toList)) := ⟨hF, hf3.mono (by omega)⟩
        have HB3 : Hid (Below W.heap.size W w3) := HB.out.trans (hb3.mono hws)
        clear hF hf3 hb3 C HO HF HB
        go_wp2_with (first | (at_builtin; refine wpList_append_own_spare _ rfl (.tmp 27) (.tmp 29) 24 rfl W.heap.size 39 i0 1 Tryz.underlying24 hi hz1 W.heap.size k fs.length vs rfl (own_alloc HO3.out _) ⟨w3.heap.size, 0, none⟩ 1 1 [.slice ua (got s.data.toList).length uc] rfl rfl (one_cells _ _ _) (one_one rfl) (by omega) ?_; intro w5 hown5 hgrow5) | fail)
        have HO5 := hide hown5
        have HV5 : Hid ((vs ++ [Value.slice ua (got s.data.toList).length uc]).length = k + 1) := by show _ = _; rw [List.length_append, HVl.out]; rfl
        have hkeep : ∀ q, W.heap.size + 1 ≤ q → q < w3.heap.size → w5.heap[q]? = w3.heap[q]? := fun q h1 h2 => (hgrow5.block q (by simp; omega) (fun e => by have := Option.some.inj e; omega)).trans (heap_alloc_old w3 _ h2)
        have HF5 : Hid (∀ (i : Nat) (u : Value) (t : ByteArray), (vs ++ [Value.slice ua (got s.data.toList).length uc])[i]? = some u → fs[i]? = some t → IsFrame t.data.toList ∧ Fresh w5 (W.heap.size + 1) u (got t.data.toList)) := fun i u t hu ht => by
          rcases getElem?_snoc hu with ⟨_, hu⟩ | ⟨hi, rfl⟩
          · exact ⟨(HF3.out i u t hu ht).1, (HF3.out i u t hu ht).2.kept hkeep⟩
          · rw [hi, HVl.out, HX.out] at ht
            cases ht
            exact ⟨HFu.out.1, HFu.out.2.kept hkeep⟩
        have HB5 : Hid (Below W.heap.size W w5) := (HB3.out.alloc (by omega) _).grown hgrow5 (by simp; omega) (fun q e => by cases e; exact Nat.le_refl _)
        clear hown5 hgrow5 hkeep HO3 HF3 HFu HB3 HVl
        go_wp2
        go_roundw
        case rel => exact ⟨k + 1, _, by omega, by go_num, by first | rfl | trivial, HV5.out, HO5.out, HF5.out, HB5.out⟩
        case measure => simp [intOf]; omega
      · have HB3 : Hid (Below W.heap.size W w3) := HB.out.trans (hb3.mono hws)
        have HN : Hid (MergeOf fs (.returned (.tuple #[.string ByteArray.empty, .int .i64 3]))) := .inr ⟨fun h => hno (h s (List.mem_of_getElem? HX.out)), rfl⟩
        clear hno hb3 C HO HF HB
        go_wp2
        go_ret2
        exact ⟨HN.out, HB3.out⟩
    · obtain rfl : k = fs.length := by omega
      have hall : ∀ s ∈ fs, IsFrame s.data.toList := fun s hs => by
        obtain ⟨i, hi, e⟩ := List.mem_iff_getElem.1 hs
        exact (HF.out i _ s (List.getElem?_eq_getElem (by rw [HVl.out]; exact hi)) (by rw [List.getElem?_eq_getElem hi, e])).1
      have hg : ∀ bs ∈ gots fs, BatchOk bs ∧ LimitsOk bs ∧ ∀ s ∈ bs, Ranged s := fun bs hbs => by
        obtain ⟨s, hs, rfl⟩ := List.mem_map.1 hbs
        exact ⟨(hall s hs).batch, (hall s hs).limits, (payR_small (BA (inner s.data.toList))).2⟩
      have hgl' : (gots fs).length = fs.length := by simp [gots]
      have hrows : RowsR wr (.slice (some ⟨W.heap.size, 0, none⟩) fs.length fs.length) (gots fs) := by
        refine ⟨_, fs.length, by rw [hgl'], fun i l hl => ?_⟩
        have hl' : (fs.map fun s => got s.data.toList)[i]? = some l := hl
        rw [List.getElem?_map] at hl'
        obtain ⟨s, hs, rfl⟩ := Option.map_eq_some_iff.1 hl'
        have hi := (List.getElem?_eq_some_iff.1 hs).1
        obtain ⟨u, hu⟩ : ∃ u, vs[i]? = some u := ⟨_, List.getElem?_eq_getElem (by rw [HVl.out]; exact hi)⟩
        have hfr := (HF.out i u s hu hs).2
        obtain ⟨ua, uc, rfl⟩ := hfr.shape
        exact ⟨W.heap.size, 0, ua, uc, rfl, hgl, by rw [Nat.zero_add]; exact own_cell HO.out hu, hfr.batchAt (payR_small (BA (inner s.data.toList))).2⟩
      have hfl := flat_len fun bs hbs => (hg bs hbs).2.1.2
      have hsam := samN_le (bs := (gots fs).flatten) fun s hs => by
        obtain ⟨l, hl, hs⟩ := List.mem_flatten.1 hs
        exact (limits_mem (hg l hl).2.1 s hs).2
      have C2 := hide (joinAll_any wr _ (gots fs) hrows (fun bs hbs => (hg bs hbs).1) (fun s hs => by
        obtain ⟨l, hl, hs⟩ := List.mem_flatten.1 hs
        exact ⟨fit_of (hg l hl).1 (hg l hl).2.1 s hs, (hg l hl).2.2 s hs⟩) (by omega) (by omega) (by omega))
      have HAll := hide hall
      have HG := hide hg
      clear hall hg hgl' hrows hfl hsam HF HO
      go_wp2_with fail
      refine C2.out.mono ?_
      rintro e w4 ⟨j, n, hj, hn2, hb4, hr⟩
      have HB4 : Hid (Below W.heap.size W w4) := HB.out.trans (hb4.mono hws)
      have hs4 := hb4.size
      have HJ := hide hj
      have HC := hide hn2
      rcases hr with ⟨rfl, jv, rfl, hF⟩ | ⟨hm0, rfl⟩
      · have hok : BatchOk j ∧ LimitsOk j := by
          rcases hn2 with ⟨h, _⟩ | ⟨h, _⟩ | ⟨_, h⟩
          · cases h
          · cases h
          · exact h
        have hA : BatchAt w4 w4.heap.size jv j := hF.batchAt (ranged_join (fun bs hbs => (HG.out bs hbs).2.2) hj)
        obtain ⟨ja, jc, rfl, -⟩ := id hA
        have hFi := fits_of hok.1 hok.2
        have hp := payload_bounds hFi
        have C3 := hide (Pack_any w4.heap.size _ j w4 hA (Nat.le_refl _) (HT.out.below HB4.out h3) hFi hp.1 hp.2)
        clear hok hA hFi hp hF hj hn2 hb4 C2 HB
        go_wp2_with fail
        refine C3.out.mono ?_
        rintro e w5 ⟨rfl, hb5⟩
        have HB5 : Hid (Below W.heap.size W w5) := HB4.out.trans (hb5.mono (by omega))
        have HR : Hid (MergeOf fs (.returned (.tuple #[.string ⟨(frameOf (payload j)).toArray⟩, .int .i64 0]))) := .inl ⟨HAll.out, j, 0, HJ.out, HC.out, rfl⟩
        clear hb5 C3
        go_wp2
        go_ret2
        exact ⟨HR.out, HB5.out⟩
      · have h2 : ((n : Int) == 0) = false := by simp [hm0]
        have h4 : ¬ (n : Int) = 0 := by omega
        have HR : Hid (MergeOf fs (.returned (.tuple #[.string ByteArray.empty, .int .i64 n]))) := .inl ⟨HAll.out, j, n, HJ.out, HC.out, by rw [if_neg hm0]⟩
        clear hj hn2 hb4 C2 HB
        go_wp2
        go_ret2
        exact ⟨HR.out, HB4.out⟩
end Go.Proofs.YtamcclcbmenjdaaGreatDoor

/- Joins of choirkeep's batches stay within limits. No program here. -/
namespace Go.Proofs.YtamcclcbmenjdaaGreatDoor

theorem KB.limits {bs : List Ser} {n : Nat} (h : KB bs n) (hn : n ≤ 40) (hok : BatchOk bs) : LimitsOk bs := by
  refine ⟨fun i x _ hx => ?_, ?_⟩
  · obtain ⟨⟨j, _, e⟩, h2⟩ := h x (List.mem_of_getElem? hx)
    exact ⟨by rw [e]; exact klen, by omega⟩
  · have h1 : (bs.map (·.1)).length ≤ [labsOf 0, labsOf 1, labsOf 2, labsOf 3].length := by
      refine nodup_len _ _ ?_ fun l hl => ?_
      · refine List.pairwise_map.2 (((batchOk_iff bs).1 hok).2.imp fun {x y} hxy e => ?_)
        unfold LLt at hxy
        rw [e, cmpLabs_self] at hxy
        cases hxy
      · obtain ⟨s, hs, rfl⟩ := List.mem_map.1 hl
        obtain ⟨⟨j, hj, e⟩, _⟩ := h s hs
        rw [e]
        have : j = 0 ∨ j = 1 ∨ j = 2 ∨ j = 3 := by omega
        rcases this with rfl | rfl | rfl | rfl <;> simp
    rw [List.length_map] at h1
    simp at h1; omega
/-- The samples of labels in a batch are at most n. -/
theorem KB.times {bs : List Ser} {n : Nat} (h : KB bs n) (hok : BatchOk bs) (l : List Lab) : ∃ ts : List Int, ts.length ≤ n ∧ ∀ t v, Holds bs l t v → t ∈ ts := by
  by_cases he : ∃ s ∈ bs, s.1 = l
  · obtain ⟨s, hs, e⟩ := he
    refine ⟨s.2.map (·.1), by rw [List.length_map]; exact (h s hs).2, fun t v ⟨r, hr, e2, hm⟩ => ?_⟩
    have := ser_unique ((batchOk_iff bs).1 hok).2 hs hr (e.trans e2.symm)
    subst this
    exact List.mem_map.2 ⟨_, hm, rfl⟩
  · exact ⟨[], Nat.zero_le _, fun t v ⟨r, hr, e2, _⟩ => absurd ⟨r, hr, e2⟩ he⟩
theorem IsJoin.kb {a b j : List Ser} {n m : Nat} (hj : IsJoin [a, b] j) (ha : KB a n) (hb : KB b m) (oa : BatchOk a) (ob : BatchOk b) : KB j (n + m) := fun s hs => by
  have hso := (samplesOk_iff _).1 (((batchOk_iff j).1 hj.ok).1 s hs).2
  have hold : ∀ x ∈ s.2, Holds a s.1 x.1 x.2 ∨ Holds b s.1 x.1 x.2 := fun x hx => by
    obtain ⟨⟨bs, hbs, h⟩, _⟩ := (hj.holds s.1 x.1 x.2).1 ⟨s, hs, rfl, hx⟩
    rcases List.mem_cons.1 hbs with rfl | hbs
    · exact .inl h
    · rw [List.mem_singleton.1 hbs] at h; exact .inr h
  constructor
  · obtain ⟨x, hx⟩ : ∃ x, x ∈ s.2 := List.exists_mem_of_ne_nil _ hso.1
    rcases hold x hx with ⟨r, hr, e, _⟩ | ⟨r, hr, e, _⟩
    · rw [← e]; exact (ha r hr).1
    · rw [← e]; exact (hb r hr).1
  · obtain ⟨t1, l1, h1⟩ := ha.times oa s.1
    obtain ⟨t2, l2, h2⟩ := hb.times ob s.1
    have h3 : (s.2.map (·.1)).length ≤ (t1 ++ t2).length := by
      refine nodup_len _ _ ?_ fun t ht => ?_
      · refine List.pairwise_map.2 (hso.2.imp fun {x y} hxy e => ?_)
        unfold SLt at hxy; omega
      · obtain ⟨x, hx, rfl⟩ := List.mem_map.1 ht
        rcases hold x hx with h | h
        · exact List.mem_append_left _ (h1 _ _ h)
        · exact List.mem_append_right _ (h2 _ _ h)
    rw [List.length_map, List.length_append] at h3
    omega
end Go.Proofs.YtamcclcbmenjdaaGreatDoor

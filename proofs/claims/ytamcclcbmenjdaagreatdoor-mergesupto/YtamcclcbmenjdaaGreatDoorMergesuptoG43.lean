/- 'choirlaw.Merges', for any list of texts of bulk at most 1048576: Merge answers the document's frame or error; what is handed in stays. The second form's statement and its card: its only condition is the row's own bound on the argument's bulk. -/
import Derived.Test.YtamcclcbmenjdaaGreatDoorMergesuptoG42
import Derived.Test.YtamcclcbmenjdaaGreatDoorMergesuptoG40
import Derived.Test.YtamcclcbmenjdaaGreatDoorMergesuptoG15
import Derived.Test.YtamcclcbmenjdaaGreatDoorMergesuptoG8
import Derived.Test.YtamcclcbmenjdaaGreatDoorMergesuptoG16
import Derived.Deep.DeepAppendRoom
import Derived.Test.YtamcclcbmenjdaaGreatDoorMergesuptoG29
/- The reference's Join. -/
namespace Go.Proofs.YtamcclcbmenjdaaGreatDoor
open Go.RowKit Go.Lib

/-- A list whose size n samples more have made. -/
def Sz (M : Nat) (cur : List Ser) (n : Nat) : Prop := cur.length ≤ M + n ∧ ∀ s ∈ cur, s.1.length ≤ M ∧ s.2.length ≤ M + n
theorem Sz.add {M n : Nat} {cur : List Ser} {l : List Lab} {s : Int × Nat} (h : Sz M cur n) (hl : l.length ≤ M) : Sz M (addB l s cur) (n + 1) := by
  refine ⟨by have := addB_len l s cur; have := h.1; omega, fun x hx => ?_⟩
  rcases addB_mem hx with e | e | ⟨y, hy, _, e⟩
  · have := h.2 x e; omega
  · rw [e]; exact ⟨hl, by simp; omega⟩
  · rw [e]
    have h1 := addS_len s y.2
    have h2 := (h.2 y hy).2
    exact ⟨hl, by show (addS s y.2).length ≤ _; omega⟩
theorem singles_take {b : List Ser} {k : Nat} {x : Ser} (hx : b[k]? = some x) : singles (b.take (k + 1)) = singles (b.take k) ++ x.2.map fun y => [(x.1, [y])] := by
  rw [List.take_add_one, hx]; simp [singles]
theorem samN_take {b : List Ser} {k : Nat} {x : Ser} (hx : b[k]? = some x) : samN (b.take (k + 1)) = samN (b.take k) + x.2.length := by
  rw [List.take_add_one, hx]; simp [samN]
theorem samN_take_le (b : List Ser) (k : Nat) : samN (b.take k) ≤ samN b := by
  conv => rhs; rw [← List.take_append_drop k b]
  rw [samN_app]; omega
theorem singles_ok {b : List Ser} (h : ∀ s ∈ b, LabelsOk s.1) : ∀ c ∈ singles b, BatchOk c := fun c hc => by
  obtain ⟨s, hs, hc⟩ := List.mem_flatMap.1 hc
  obtain ⟨x, _, rfl⟩ := List.mem_map.1 hc
  exact batchOk_one (h s hs) x
theorem onB {w w' : World} {v : Value} {bs : List Ser} (h : BatchAt w w.heap.size v bs) (hb : Below w.heap.size w w') : BatchAt w' w'.heap.size v bs := (h.below hb (Nat.le_refl _)).wider hb.size

set_option maxRecDepth 100000 in
set_option maxHeartbeats 2000000 in
theorem refJoin_any (W : World) (va vb : Value) (a b : List Ser) (ha : BatchAt W W.heap.size va a) (hb : BatchAt W W.heap.size vb b) (oa : BatchOk a) (ob : BatchOk b) (sa : Sz 100000000 a 0) (sb : Sz 100000000 b 0) (hsn : samN b ≤ 100000000) :
    Calls Tryz.prog 49 #[va, vb] W fun e w' => ∃ v' j, e = .returned v' ∧ IsJoin [a, b] j ∧ Sz 100000000 j (samN b) ∧ BatchAt w' w'.heap.size v' j ∧ Below W.heap.size W w' := by
  obtain ⟨i0, hi, hz0, hz1, hz2⟩ := info_parts Tryz.infoSer
  obtain ⟨aa, ac, rfl, -⟩ := id ha
  obtain ⟨ba, bc, rfl, -⟩ := id hb
  obtain ⟨-, as1, hpa, hsa⟩ := batchAt_pairs ha
  have HSA : Hid (a.length = 0 ∨ ∃ ad, aa = some ad ∧ ∀ j u, (serCells as1)[j]? = some u → W.cell? (ad.add j) = some u) := hsa.imp id fun ⟨ad, e1, _, e3⟩ => ⟨ad, e1, e3⟩
  have HPA := hide hpa
  have HB := hide hb
  have HOk : Hid (BatchOk a ∧ BatchOk b) := ⟨oa, ob⟩
  have HSz : Hid (Sz 100000000 a 0 ∧ Sz 100000000 b 0) := ⟨sa, sb⟩
  have hla := sa.1
  have hlb := sb.1
  clear ha hb hpa hsa oa ob sa sb
  go_enter Tryz.func49, Tryz.ntmps49
  go_wp2_with (first | (at_builtin; refine wpList_append_spread _ rfl (.tmp 8) (.tmp 9) 39 rfl W.heap.size 38 i0 (.agg #[.slice none 0 0, .slice none 0 0]) 2 48 Tryz.underlying39 hi hz0 hz1 hz2 rfl (by decide) (.slice none 0 0) 0 [] rfl (World.ownsRow_nil _ _ _ _) aa a.length ac (serCells as1) rfl (pairs_len HPA.out) HSA.out HPA.out.oneCell (by unfold maxLen; omega) (by omega) (Nat.le_refl _) ?_) | fail)
  intro v1 w1 ho1 hg1 hh1
  have HB1 : Hid (Below W.heap.size W w1) := below_grownAt (Below.refl _ _) hg1 (Nat.le_refl _) (fun b e => by cases e)
  have HV1 : Hid (BatchAt w1 w1.heap.size v1 a) := ((HPA.out.below HB1.out (Nat.le_refl _)).wider HB1.out.size).batchAt (base := W.heap.size) (by simpa using ho1)
  have HJ1 : Hid (IsJoin [a] a) := IsJoin.one HOk.out.1
  clear ho1 hg1 hh1 HSA HPA
  go_wp2
  go_loopw [5, 6, 7] (fun ov i _ wr => ∃ (k : Nat) (cur : List Ser), k ≤ b.length ∧ i = .int .i64 k ∧ Hid (BatchAt wr wr.heap.size ov cur) ∧ Hid (IsJoin (a :: singles (b.take k)) cur) ∧ Hid (Sz 100000000 cur (samN (b.take k))) ∧ Hid (Below W.heap.size W wr)) (fun _ i _ _ => b.length - (intOf i).toNat)
  case atStart => exact ⟨0, a, Nat.zero_le _, rfl, HV1.out, HJ1.out, HSz.out.1, HB1.out⟩
  case round =>
    clear HV1 HJ1 HB1
    obtain ⟨k, cur, hk, rfl, HV, HJ, HZ, HW⟩ := hrel
    by_cases hlt : k < b.length
    · obtain ⟨⟨ll, sl⟩, hx⟩ : ∃ x, b[k]? = some x := ⟨_, List.getElem?_eq_getElem hlt⟩
      obtain ⟨b1, o1, la1, lc1, sa1, sc1, rfl, hb1, p1, p2, L1, S1⟩ := HB.out.get hx
      have hbok := ((batchOk_iff b).1 HOk.out.2).1 _ (List.mem_of_getElem? hx)
      have hbz := HSz.out.2.2 _ (List.mem_of_getElem? hx)
      have hst := singles_take hx
      have hnt := samN_take hx
      have hnl := samN_take_le b (k + 1)
      simp only at p1 p2 L1 S1 hbok hbz hst hnt
      have HL1 := hide L1
      have HS1 := hide S1
      have HLo := hide hbok.1
      have HSt := hide hst
      have HNt := hide hnt
      have HSok : Hid (∀ c ∈ singles (b.take k), BatchOk c) := singles_ok fun s hs => (((batchOk_iff b).1 HOk.out.2).1 s (List.mem_of_mem_take hs)).1
      have hn2 : samN (b.take k) + sl.length ≤ 100000000 := by omega
      clear hx L1 S1 hbok hst hnt hnl
      go_wp2
      go_loopw [5, 7] (fun ov i wr => ∃ (q : Nat) (cur : List Ser), q ≤ sl.length ∧ i = .int .i64 q ∧ Hid (BatchAt wr wr.heap.size ov cur) ∧ Hid (IsJoin ((a :: singles (b.take k)) ++ (sl.take q).map fun y => [(ll, [y])]) cur) ∧ Hid (Sz 100000000 cur (samN (b.take k) + q)) ∧ Hid (Below W.heap.size W wr)) (fun _ i _ => sl.length - (intOf i).toNat)
      case atStart => exact ⟨0, cur, Nat.zero_le _, rfl, HV.out, by show IsJoin _ _; simpa using HJ.out, HZ.out, HW.out⟩
      case round =>
        clear HV HJ HZ HW
        obtain ⟨q, cur, hq, rfl, HV, HJ, HZ, HW⟩ := hrel
        have hsw := HW.out.size
        have m1 := (HW.out.cell (p := ⟨b1, o1 + k * 2, none⟩) hb1).trans p1
        have m2 := (HW.out.cell (p := ⟨b1, o1 + k * 2 + 1, none⟩) hb1).trans p2
        by_cases hql : q < sl.length
        · obtain ⟨⟨tx, bx⟩, hy⟩ : ∃ x, sl[q]? = some x := ⟨_, List.getElem?_eq_getElem hql⟩
          have hgx : ∃ b o, sa1 = some ⟨b, o, none⟩ ∧ b < W.heap.size ∧ W.cell? ⟨b, o + q * 2, none⟩ = some (.int .i64 tx) ∧ W.cell? ⟨b, o + q * 2 + 1, none⟩ = some (.int .u64 bx) := by
            obtain ⟨a', c', e, _, _, h2⟩ := HS1.out
            cases e
            rcases h2 with h2 | ⟨b, o, ha, hb, hc⟩
            · rw [h2] at hy; cases hy
            · exact ⟨b, o, ha, hb, hc q _ hy⟩
          obtain ⟨e1, f1, rfl, he1, u1, u2⟩ := hgx
          have y0 := (HW.out.cell (p := ⟨e1, f1 + q * 2, none⟩) he1).trans u1
          have y1 := (HW.out.cell (p := ⟨e1, f1 + q * 2 + 1, none⟩) he1).trans u2
          have hrx : -9223372036854775808 ≤ tx ∧ tx ≤ 9223372036854775807 ∧ bx ≤ 18446744073709551615 := HS1.out.choose_spec.choose_spec.2.2.1 (tx, bx) (List.mem_of_getElem? hy)
          have htk : (sl.take (q + 1)).map (fun y => [(ll, [y])]) = (sl.take q).map (fun y => [(ll, [y])]) ++ [[(ll, [(tx, bx)])]] := by rw [List.take_add_one, hy]; simp
          have HTk := hide htk
          have hcok := (batchOk_iff cur).1 HJ.out.ok
          have hzc := HZ.out
          have CA : Hid (∀ W2, Below wr.heap.size wr W2 → Calls Tryz.prog 89 #[u5, .slice la1 ll.length lc1, .agg #[.int .i64 tx, .int .u64 bx]] W2 fun e w' => ∃ v', e = .returned v' ∧ BatchAt w' w'.heap.size v' (addB ll (tx, bx) cur) ∧ Below wr.heap.size wr w') := fun W2 h2 =>
            (refAdd_any W2 u5 (.slice la1 ll.length lc1) cur ll tx bx (onB HV.out h2) (((HL1.out.below HW.out (Nat.le_refl _)).below h2 hsw).wider (by have := h2.size; omega)) hrx (fun x hx => ((samplesOk_iff _).1 (hcok.1 x hx).2).2) (by have := hzc.1; omega) (fun x hx => by have := hzc.2 x hx; omega)).mono fun e w' ⟨v', h3, h4, h5⟩ => ⟨v', h3, h4, h2.trans (h5.mono h2.size)⟩
          have HJ2 : Hid (IsJoin ((a :: singles (b.take k)) ++ (sl.take (q + 1)).map fun y => [(ll, [y])]) (addB ll (tx, bx) cur)) := by
            rw [HTk.out, ← List.append_assoc]
            refine HJ.out.group (addB_join HJ.out.ok HLo.out) fun c hc => ?_
            rcases List.mem_append.1 hc with hc | hc
            · rcases List.mem_cons.1 hc with e | hc
              · rw [e]; exact HOk.out.1
              · exact HSok.out c hc
            · obtain ⟨y, _, rfl⟩ := List.mem_map.1 hc
              exact batchOk_one HLo.out y
          have HZ2 : Hid (Sz 100000000 (addB ll (tx, bx) cur) (samN (b.take k) + (q + 1))) := HZ.out.add hbz.1
          have hbw : b1 < wr.heap.size := by omega
          have hew : e1 < wr.heap.size := by omega
          clear hy hrx htk hcok hzc HV HJ HZ u1 u2
          go_wp2
          as_aux_lemma =>
            go_region_held3 (fun w' => w'.cell? ⟨b1, o1 + k * 2, none⟩ = some (.slice la1 ll.length lc1) ∧ w'.cell? ⟨b1, o1 + k * 2 + 1, none⟩ = some (.slice (some ⟨e1, f1, none⟩) sl.length sc1) ∧ w'.cell? ⟨e1, f1 + q * 2, none⟩ = some (.int .i64 tx) ∧ w'.cell? ⟨e1, f1 + q * 2 + 1, none⟩ = some (.int .u64 bx)) (go_keep) (first | (go_at_call 89; refine (CA.out _ (by first | exact (Below.refl _ _).drew | exact Below.refl _ _)).mono ?_; rintro e w6 ⟨v6, rfl, hB6, hb6⟩; have x1 := (hb6.cell (p := ⟨b1, o1 + k * 2, none⟩) hbw).trans m1; have x2 := (hb6.cell (p := ⟨b1, o1 + k * 2 + 1, none⟩) hbw).trans m2; have x3 := (hb6.cell (p := ⟨e1, f1 + q * 2, none⟩) hew).trans y0; have x4 := (hb6.cell (p := ⟨e1, f1 + q * 2 + 1, none⟩) hew).trans y1) | fail)
            all_goals
              have HV6 := hide hB6
              have HW6 : Hid (Below W.heap.size W w6) := HW.out.trans (hb6.mono hsw)
              clear hB6 hb6 x1 x2 x3 x4 CA
              go_wp2
              go_roundw
              case rel => exact ⟨q + 1, addB ll (tx, bx) cur, by omega, by go_num, HV6.out, HJ2.out, HZ2.out, HW6.out⟩
              case measure => simp [intOf]; omega
        · have HJ2 : Hid (IsJoin (a :: singles (b.take (k + 1))) cur) := by
            rw [HSt.out]
            have h := HJ.out
            rw [show sl.take q = sl from List.take_of_length_le (by omega)] at h
            exact h
          have HZ2 : Hid (Sz 100000000 cur (samN (b.take (k + 1)))) := by
            rw [HNt.out]
            have e : q = sl.length := by omega
            rw [← e]; exact HZ.out
          go_wp2
          go_roundw
          case rel => exact ⟨k + 1, cur, by omega, by go_num, HV.out, HJ2.out, HZ2.out, HW.out⟩
          case measure => simp [intOf]; omega
    · obtain rfl : k = b.length := by omega
      have HJ2 : Hid (IsJoin [a, b] cur) := by
        have h := HJ.out
        rw [List.take_length] at h
        exact h.singles
      have HZ2 : Hid (Sz 100000000 cur (samN b)) := by
        have h := HZ.out
        rw [List.take_length] at h
        exact h
      go_wp2
      go_ret
      exact ⟨_, cur, rfl, HJ2.out, HZ2.out, HV.out, HW.out⟩
end Go.Proofs.YtamcclcbmenjdaaGreatDoor

/- choir.Merge. -/
namespace Go.Proofs.YtamcclcbmenjdaaGreatDoor
open Go.RowKit Go.Lib

theorem Tryz.infoSers : (Tryz.prog.info? 39).map (fun i => (i.zero, i.size, i.bytes)) = some (some (.slice none 0 0), 1, 24) := by kernel_rfl
/-- A row of texts in memory. -/
def FramesAt (w : World) (v : Value) (fs : List ByteArray) : Prop :=
  ∃ a cap, v = .slice a fs.length cap ∧ ∀ i s, fs[i]? = some s → ∃ b o, a = some ⟨b, o, none⟩ ∧ b < w.heap.size ∧ w.cell? ⟨b, o + i, none⟩ = some (.string s)
/-- The batches of frames. -/
def gots (fs : List ByteArray) : List (List Ser) := fs.map fun s => got s.data.toList
theorem ranged_join {bss : List (List Ser)} {j : List Ser} (h : ∀ bs ∈ bss, ∀ s ∈ bs, Ranged s) (hj : IsJoin bss j) : ∀ s ∈ j, Ranged s := fun s hs x hx => by
  obtain ⟨⟨bs, hbs, r, hr, _, hm⟩, _⟩ := (hj.holds s.1 x.1 x.2).1 ⟨s, hs, rfl, hx⟩
  exact h bs hbs r hr _ hm
theorem flat_len {bss : List (List Ser)} (h : ∀ bs ∈ bss, bs.length ≤ 8) : bss.flatten.length ≤ 8 * bss.length := by
  induction bss with
  | nil => simp
  | cons a r ih =>
    have h1 := h a (List.mem_cons_self ..)
    have h2 := ih fun x hx => h x (List.mem_cons_of_mem _ hx)
    rw [List.flatten_cons, List.length_append, List.length_cons]; omega
theorem one_cells (w : World) (u : Value) (t : TypeId) : ∀ j x, [u][j]? = some x → (w.alloc (.cells #[u] t)).cell? ((⟨w.heap.size, 0, none⟩ : Addr).add j) = some x := cells_new w [u] t
/-- What Merge answers. -/
def MergeOf (fs : List ByteArray) (e : Ending) : Prop :=
  ((∀ s ∈ fs, IsFrame s.data.toList) ∧ ∃ j n, IsJoin (gots fs) j ∧ Code j n ∧ e = .returned (.tuple #[.string (if n = 0 then ⟨(frameOf (payload j)).toArray⟩ else ByteArray.empty), .int .i64 n])) ∨ ((¬ ∀ s ∈ fs, IsFrame s.data.toList) ∧ e = .returned (.tuple #[.string ByteArray.empty, .int .i64 3]))

set_option maxRecDepth 100000 in
set_option maxHeartbeats 1000000 in
theorem merge_any (W : World) (v : Value) (fs : List ByteArray) (hv : FramesAt W v fs) (hs : ∀ s ∈ fs, s.size ≤ 140737488355328) (hn : fs.length ≤ 10000000) (hT : Tabs W) :
    Calls Tryz.prog 11 #[v] W fun e w' => MergeOf fs e ∧ Below W.heap.size W w' := by
  obtain ⟨i0, hi, hz0, hz1, hz2⟩ := info_parts Tryz.infoSers
  obtain ⟨va, vc, rfl, hv⟩ := hv
  have h3 := hT.lt
  have HV := hide hv
  have HS := hide hs
  have HT := hide hT
  clear hv hs hT
  go_enter Tryz.func11, Tryz.ntmps11
  go_wp2_with (first | (at_make; refine wpList_make_own _ rfl _ _ 24 rfl W.heap.size 39 i0 _ 1 Tryz.underlying24 hi hz0 hz1 .i64 .i64 _ fs.length rfl rfl rfl (by rw [hz2]; omega) (by unfold maxLen; omega) (by simp) ?_; intro w2 hown2 hgrow2))
  have HO2 := hide hown2
  have HB2 : Hid (Below W.heap.size W w2) := (Below.refl _ _).grown hgrow2 (Nat.le_refl _) (fun k e => (by cases e))
  clear hown2 hgrow2
  go_wp2
  go_loopw [4, 6, 7, 8, 16] (fun bv _ _ _ i wr => ∃ (k : Nat) (vs : List Value), k ≤ fs.length ∧ i = .int .i64 k ∧ bv = .slice (some ⟨W.heap.size, 0, none⟩) k fs.length ∧ Hid (vs.length = k) ∧ Hid (wr.ownsRow W.heap.size 39 1 (.slice (some ⟨W.heap.size, 0, none⟩) k fs.length) k vs) ∧ Hid (∀ (i : Nat) (u : Value) (s : ByteArray), vs[i]? = some u → fs[i]? = some s → IsFrame s.data.toList ∧ FreshD wr (W.heap.size + 1) u (got s.data.toList)) ∧ Hid (Below W.heap.size W wr)) (fun _ _ _ _ i _ => fs.length - (intOf i).toNat)
  case atStart => exact ⟨0, [], Nat.zero_le _, rfl, rfl, rfl, by show w2.ownsRow _ _ _ _ _ _; simpa using HO2.out, (fun i u s h _ => by simp at h), HB2.out⟩
  case round =>
    clear HO2 HB2
    obtain ⟨k, vs, hk, rfl, rfl, HVl, HO, HF, HB⟩ := hrel
    have hws := HB.out.size
    have hgl := (World.ownsRow.lt HO.out W.heap.size rfl).2
    by_cases hlt : k < fs.length
    · obtain ⟨s, hx⟩ : ∃ s, fs[k]? = some s := ⟨_, List.getElem?_eq_getElem hlt⟩
      obtain ⟨b, o, rfl, hb0, c0⟩ := HV.out k s hx
      have k0 := (HB.out.cell (p := ⟨b, o + k, none⟩) hb0).trans c0
      have hss := HS.out s (List.mem_of_getElem? hx)
      have hTr := HT.out.below HB.out h3
      have C := hide (unpack_any s wr hss hTr)
      have HX := hide hx
      have i1 : (k : Int) < (fs.length : Int) := by omega
      clear c0 hx hTr
      go_wp2_with fail
      refine C.out.mono ?_
      rintro e w3 ⟨⟨hF, u, rfl, hf3⟩ | ⟨hno, rfl⟩, hb3⟩
      · have hs3 := hb3.size
        obtain ⟨ua, uc, rfl⟩ := hf3.shape
        have HO3 := hide (own_kept HO.out (w' := w3) fun q e => by cases e; exact hb3.block _ hgl)
        have HF3 : Hid (∀ (i : Nat) (u : Value) (s : ByteArray), vs[i]? = some u → fs[i]? = some s → IsFrame s.data.toList ∧ FreshD w3 (W.heap.size + 1) u (got s.data.toList)) := fun i u s h1 h2 => ⟨(HF.out i u s h1 h2).1, (HF.out i u s h1 h2).2.kept fun q _ hq => hb3.block q hq⟩
        have HFu : Hid (IsFrame s.data.toList ∧ FreshD w3 (W.heap.size + 1) (.slice ua (got s.data.toList).length uc) (got s.data.toList)) := ⟨hF, hf3.mono (by omega)⟩
        have HB3 : Hid (Below W.heap.size W w3) := HB.out.trans (hb3.mono hws)
        clear hF hf3 hb3 C HO HF HB
        go_wp2_with (first | (at_builtin; refine wpList_append_own_spare _ rfl (.tmp 27) (.tmp 29) 24 rfl W.heap.size 39 i0 1 Tryz.underlying24 hi hz1 W.heap.size k fs.length vs rfl (own_alloc HO3.out _) ⟨w3.heap.size, 0, none⟩ 1 1 [.slice ua (got s.data.toList).length uc] rfl rfl (one_cells _ _ _) (one_one rfl) (by omega) ?_; intro w5 hown5 hgrow5) | fail)
        have HO5 := hide hown5
        have HV5 : Hid ((vs ++ [Value.slice ua (got s.data.toList).length uc]).length = k + 1) := by show _ = _; rw [List.length_append, HVl.out]; rfl
        have hkeep : ∀ q, W.heap.size + 1 ≤ q → q < w3.heap.size → w5.heap[q]? = w3.heap[q]? := fun q h1 h2 => (hgrow5.block q (by simp; omega) (fun e => by have := Option.some.inj e; omega)).trans (heap_alloc_old w3 _ h2)
        have HF5 : Hid (∀ (i : Nat) (u : Value) (t : ByteArray), (vs ++ [Value.slice ua (got s.data.toList).length uc])[i]? = some u → fs[i]? = some t → IsFrame t.data.toList ∧ FreshD w5 (W.heap.size + 1) u (got t.data.toList)) := fun i u t hu ht => by
          rcases getElem?_snoc hu with ⟨_, hu⟩ | ⟨hi, rfl⟩
          · exact ⟨(HF3.out i u t hu ht).1, (HF3.out i u t hu ht).2.kept hkeep⟩
          · rw [hi, HVl.out, HX.out] at ht
            cases ht
            exact ⟨HFu.out.1, HFu.out.2.kept hkeep⟩
        have HB5 : Hid (Below W.heap.size W w5) := (HB3.out.alloc (by omega) _).grown hgrow5 (by simp; omega) (fun q e => by cases e; exact Nat.le_refl _)
        clear hown5 hgrow5 hkeep HO3 HF3 HFu HB3 HVl
        go_wp2
        go_roundw
        case rel => exact ⟨k + 1, _, by omega, by go_num, by first | rfl | trivial, HV5.out, HO5.out, HF5.out, HB5.out⟩
        case measure => simp [intOf]; omega
      · have HB3 : Hid (Below W.heap.size W w3) := HB.out.trans (hb3.mono hws)
        have HN : Hid (MergeOf fs (.returned (.tuple #[.string ByteArray.empty, .int .i64 3]))) := .inr ⟨fun h => hno (h s (List.mem_of_getElem? HX.out)), rfl⟩
        clear hno hb3 C HO HF HB
        go_wp2
        go_ret2
        exact ⟨HN.out, HB3.out⟩
    · obtain rfl : k = fs.length := by omega
      have hall : ∀ s ∈ fs, IsFrame s.data.toList := fun s hs => by
        obtain ⟨i, hi, e⟩ := List.mem_iff_getElem.1 hs
        exact (HF.out i _ s (List.getElem?_eq_getElem (by rw [HVl.out]; exact hi)) (by rw [List.getElem?_eq_getElem hi, e])).1
      have hg : ∀ bs ∈ gots fs, BatchOk bs ∧ LimitsOk bs ∧ ∀ s ∈ bs, Ranged s := fun bs hbs => by
        obtain ⟨s, hs, rfl⟩ := List.mem_map.1 hbs
        exact ⟨(hall s hs).batch, (hall s hs).limits, (payR_small (BA (inner s.data.toList))).2⟩
      have hgl' : (gots fs).length = fs.length := by simp [gots]
      have hrows : RowsR wr (.slice (some ⟨W.heap.size, 0, none⟩) fs.length fs.length) (gots fs) := by
        refine ⟨_, fs.length, by rw [hgl'], fun i l hl => ?_⟩
        have hl' : (fs.map fun s => got s.data.toList)[i]? = some l := hl
        rw [List.getElem?_map] at hl'
        obtain ⟨s, hs, rfl⟩ := Option.map_eq_some_iff.1 hl'
        have hi := (List.getElem?_eq_some_iff.1 hs).1
        obtain ⟨u, hu⟩ : ∃ u, vs[i]? = some u := ⟨_, List.getElem?_eq_getElem (by rw [HVl.out]; exact hi)⟩
        have hfr := (HF.out i u s hu hs).2
        obtain ⟨ua, uc, rfl⟩ := hfr.shape
        exact ⟨W.heap.size, 0, ua, uc, rfl, hgl, by rw [Nat.zero_add]; exact own_cell HO.out hu, hfr.batchAt (payR_small (BA (inner s.data.toList))).2⟩
      have hfl := flat_len fun bs hbs => (hg bs hbs).2.1.2
      have hsam := samN_le (bs := (gots fs).flatten) fun s hs => by
        obtain ⟨l, hl, hs⟩ := List.mem_flatten.1 hs
        exact (limits_mem (hg l hl).2.1 s hs).2
      have C2 := hide (joinAll_any wr _ (gots fs) hrows (fun bs hbs => (hg bs hbs).1) (fun s hs => by
        obtain ⟨l, hl, hs⟩ := List.mem_flatten.1 hs
        exact ⟨fit_of (hg l hl).1 (hg l hl).2.1 s hs, (hg l hl).2.2 s hs⟩) (by omega) (by omega) (by omega))
      have HAll := hide hall
      have HG := hide hg
      clear hall hg hgl' hrows hfl hsam HF HO
      go_wp2_with fail
      refine C2.out.mono ?_
      rintro e w4 ⟨j, n, hj, hn2, hb4, hr⟩
      have HB4 : Hid (Below W.heap.size W w4) := HB.out.trans (hb4.mono hws)
      have hs4 := hb4.size
      have HJ := hide hj
      have HC := hide hn2
      rcases hr with ⟨rfl, jv, rfl, hF⟩ | ⟨hm0, rfl⟩
      · have hok : BatchOk j ∧ LimitsOk j := by
          rcases hn2 with ⟨h, _⟩ | ⟨h, _⟩ | ⟨_, h⟩
          · cases h
          · cases h
          · exact h
        have hA : BatchAt w4 w4.heap.size jv j := hF.batchAt (ranged_join (fun bs hbs => (HG.out bs hbs).2.2) hj)
        obtain ⟨ja, jc, rfl, -⟩ := id hA
        have hFi := fits_of hok.1 hok.2
        have hp := payload_bounds hFi
        have C3 := hide (Pack_any w4.heap.size _ j w4 hA (Nat.le_refl _) (HT.out.below HB4.out h3) hFi hp.1 hp.2)
        clear hok hA hFi hp hF hj hn2 hb4 C2 HB
        go_wp2_with fail
        refine C3.out.mono ?_
        rintro e w5 ⟨rfl, hb5⟩
        have HB5 : Hid (Below W.heap.size W w5) := HB4.out.trans (hb5.mono (by omega))
        have HR : Hid (MergeOf fs (.returned (.tuple #[.string ⟨(frameOf (payload j)).toArray⟩, .int .i64 0]))) := .inl ⟨HAll.out, j, 0, HJ.out, HC.out, rfl⟩
        clear hb5 C3
        go_wp2
        go_ret2
        exact ⟨HR.out, HB5.out⟩
      · have h2 : ((n : Int) == 0) = false := by simp [hm0]
        have h4 : ¬ (n : Int) = 0 := by omega
        have HR : Hid (MergeOf fs (.returned (.tuple #[.string ByteArray.empty, .int .i64 n]))) := .inl ⟨HAll.out, j, n, HJ.out, HC.out, by rw [if_neg hm0]⟩
        clear hj hn2 hb4 C2 HB
        go_wp2
        go_ret2
        exact ⟨HR.out, HB4.out⟩
end Go.Proofs.YtamcclcbmenjdaaGreatDoor

/- The reference: Merge. -/
namespace Go.Proofs.YtamcclcbmenjdaaGreatDoor
open Go.RowKit Go.Lib

theorem join_in {bss : List (List Ser)} {j : List Ser} (h : IsJoin bss j) {s : Ser} (hs : s ∈ j) {x : Int × Nat} (hx : x ∈ s.2) : ∃ r ∈ bss.flatten, r.1 = s.1 ∧ x ∈ r.2 := by
  obtain ⟨⟨bs, hb, r, hr, e, hm⟩, _⟩ := (h.holds s.1 x.1 x.2).1 ⟨s, hs, rfl, hx⟩
  exact ⟨r, List.mem_flatten.2 ⟨bs, hb, hr⟩, e, hm⟩
/-- How great a join may be. -/
theorem IsJoin.bound {bss : List (List Ser)} {j : List Ser} (h : IsJoin bss j) : j.length ≤ bss.flatten.length ∧ ∀ s ∈ j, (∃ r ∈ bss.flatten, r.1 = s.1) ∧ s.2.length ≤ samN bss.flatten := by
  have hb := (batchOk_iff j).1 h.ok
  have hin : ∀ s ∈ j, ∃ r ∈ bss.flatten, r.1 = s.1 := fun s hs => by
    have hne := ((samplesOk_iff s.2).1 (hb.1 s hs).2).1
    obtain ⟨x, hx⟩ := List.exists_mem_of_ne_nil s.2 hne
    obtain ⟨r, hr, e, _⟩ := join_in h hs hx
    exact ⟨r, hr, e⟩
  refine ⟨?_, fun s hs => ⟨hin s hs, ?_⟩⟩
  · have h1 := nodup_len (j.map (·.1)) (bss.flatten.map (·.1)) ?_ ?_
    · rw [List.length_map, List.length_map] at h1; exact h1
    · rw [List.pairwise_map]
      refine hb.2.imp ?_
      intro x y hxy e
      refine LLt.irr x ?_
      unfold LLt at hxy ⊢
      rw [← e] at hxy
      exact hxy
    · intro l hl
      obtain ⟨s, hs, rfl⟩ := List.mem_map.1 hl
      obtain ⟨r, hr, e⟩ := hin s hs
      exact List.mem_map.2 ⟨r, hr, e⟩
  · have h1 := nodup_len s.2 (bss.flatten.map (·.2)).flatten ?_ ?_
    · exact h1
    · refine ((samplesOk_iff s.2).1 (hb.1 s hs).2).2.imp ?_
      intro x y hxy e
      rw [← e] at hxy
      exact SLt.irr x hxy
    · intro x hx
      obtain ⟨r, hr, _, hm⟩ := join_in h hs hx
      exact List.mem_flatten.2 ⟨r.2, List.mem_map.2 ⟨r, hr, rfl⟩, hm⟩
theorem frames_size {fs : List ByteArray} (h : ∀ s ∈ fs, IsFrame s.data.toList) : 11 * fs.length ≤ (fs.map (·.size)).sum := by
  induction fs with
  | nil => simp
  | cons s r ih =>
    have h1 := ih fun x hx => h x (by simp [hx])
    have h2 := (h s (by simp)).opens.long
    have h3 : s.data.toList.length = s.size := by simp
    rw [List.map_cons, List.sum_cons, List.length_cons]
    omega
theorem sum_take (fs : List ByteArray) (k : Nat) : ((fs.take k).map (·.size)).sum ≤ (fs.map (·.size)).sum := by
  conv => rhs; rw [← List.take_append_drop k fs]
  rw [List.map_append, List.sum_append]; omega
theorem gots_bound {fs : List ByteArray} (h : ∀ s ∈ fs, IsFrame s.data.toList) : (gots fs).flatten.length ≤ 8 * fs.length ∧ samN (gots fs).flatten ≤ 320 * fs.length ∧ ∀ s ∈ (gots fs).flatten, s.1.length ≤ 4 := by
  have hg : ∀ bs ∈ gots fs, LimitsOk bs := fun bs hbs => by
    obtain ⟨s, hs, rfl⟩ := List.mem_map.1 hbs
    exact (h s hs).limits
  have h1 := flat_len fun bs hbs => (hg bs hbs).2
  have h2 : (gots fs).length = fs.length := by simp [gots]
  have hm : ∀ s ∈ (gots fs).flatten, s.1.length ≤ 4 ∧ s.2.length ≤ 40 := fun s hs => by
    obtain ⟨l, hl, hs⟩ := List.mem_flatten.1 hs
    exact limits_mem (hg l hl) s hs
  have h3 := samN_le fun s hs => (hm s hs).2
  exact ⟨by omega, by omega, fun s hs => (hm s hs).1⟩
/-- A join of frames, all together of few bytes, is of no great size. -/
theorem join_sz {fs : List ByteArray} {j : List Ser} (h : ∀ s ∈ fs, IsFrame s.data.toList) (hj : IsJoin (gots fs) j) (hs : (fs.map (·.size)).sum ≤ 2000000) : Sz 100000000 j 0 := by
  have h1 := frames_size h
  obtain ⟨g1, g2, g3⟩ := gots_bound h
  obtain ⟨b1, b2⟩ := hj.bound
  refine ⟨by omega, fun s hs => ?_⟩
  obtain ⟨⟨r, hr, e⟩, h3⟩ := b2 s hs
  have := g3 r hr
  rw [e] at this
  exact ⟨by omega, by omega⟩
theorem limits_sz {b : List Ser} (h : LimitsOk b) : Sz 100000000 b 0 ∧ samN b ≤ 320 := by
  have h1 := limits_mem h
  have h2 := samN_le fun s hs => (h1 s hs).2
  have h3 := h.2
  exact ⟨⟨by omega, fun s hs => by have := h1 s hs; omega⟩, by omega⟩
theorem MergeOf.unique {fs : List ByteArray} {e e' : Ending} (h : MergeOf fs e) (g : MergeOf fs e') : e = e' := by
  rcases h with ⟨h1, j, n, hj, hc, rfl⟩ | ⟨h1, rfl⟩ <;> rcases g with ⟨g1, j', n', gj, gc, rfl⟩ | ⟨g1, rfl⟩
  · obtain rfl := hj.unique gj
    obtain rfl := hc.unique gc
    rfl
  · exact absurd h1 g1
  · exact absurd g1 h1
  · rfl
theorem take_next {α : Type} {l : List α} {k : Nat} {x : α} (h : l[k]? = some x) : l.take (k + 1) = l.take k ++ [x] := by
  obtain ⟨hk, hx⟩ := List.getElem?_eq_some_iff.1 h
  rw [List.take_succ_eq_append_getElem hk, hx]

set_option maxRecDepth 100000 in
set_option maxHeartbeats 1000000 in
theorem refMerge_any (W : World) (v : Value) (fs : List ByteArray) (hv : FramesAt W v fs) (hsum : (fs.map (·.size)).sum ≤ 2000000) (hs : ∀ s ∈ fs, s.size ≤ 140737488355328) (hn : fs.length ≤ 10000000) (h0 : 0 < W.heap.size) :
    Calls Tryz.prog 12 #[v] W fun e w' => MergeOf fs e ∧ Below W.heap.size W w' := by
  obtain ⟨va, vc, rfl, hv⟩ := hv
  have HV := hide hv
  have HS := hide hs
  have HM := hide hsum
  clear hv hs hsum
  go_enter Tryz.func12, Tryz.ntmps12
  go_wp2
  go_loopw [4, 5, 6, 7] (fun jv iv _ _ wr => ∃ (k : Nat) (j : List Ser), k ≤ fs.length ∧ iv = .int .i64 k ∧ Hid (∀ s ∈ fs.take k, IsFrame s.data.toList) ∧ Hid (IsJoin (gots (fs.take k)) j) ∧ Hid (BatchAt wr wr.heap.size jv j) ∧ Hid (Below W.heap.size W wr)) (fun _ i _ _ _ => fs.length - (intOf i).toNat)
  case atStart => exact ⟨0, [], Nat.zero_le _, rfl, (fun s hs => by cases hs), IsJoin.none, ⟨none, 0, rfl, Nat.le_refl _, .inl rfl⟩, Below.refl _ _⟩
  case round =>
    obtain ⟨k, j, hk, rfl, HA, HJ, HT, HB⟩ := hrel
    have hws := HB.out.size
    obtain ⟨ja, jc, rfl, -⟩ := id HT.out
    by_cases hlt : k < fs.length
    · obtain ⟨s, hx⟩ : ∃ s, fs[k]? = some s := ⟨_, List.getElem?_eq_getElem hlt⟩
      obtain ⟨b, o, rfl, hb, hc⟩ := HV.out k s hx
      have c0 := (HB.out.cell (p := ⟨b, o + k, none⟩) hb).trans hc
      have C := hide (refDecode_any wr s (HS.out s (List.mem_of_getElem? hx)) (by omega))
      have HX := hide hx
      have i1 : (k : Int) < (fs.length : Int) := by omega
      clear hc hx
      go_wp2_with fail
      refine C.out.mono ?_
      rintro e w3 ⟨⟨a3, n3, c3, b3, rfl, hy3, hno3⟩, hb3⟩
      have hs3 := hb3.size
      have HB3 : Hid (Below W.heap.size W w3) := HB.out.trans (hb3.mono hws)
      have HT3 : Hid (BatchAt w3 w3.heap.size (.slice ja j.length jc) j) := onB HT.out hb3
      cases b3 with
      | false =>
        have HN : Hid (MergeOf fs (.returned (.tuple #[.string ByteArray.empty, .int .i64 3]))) := .inr ⟨fun h => hno3 rfl (h s (List.mem_of_getElem? HX.out)), rfl⟩
        clear hno3 hy3 hb3 C HT HB HT3
        go_wp2
        go_ret2
        exact ⟨HN.out, HB3.out⟩
      | true =>
        have hy := hy3 rfl
        have hall : ∀ x ∈ fs.take (k + 1), IsFrame x.data.toList := fun x hx => by
          rw [take_next HX.out] at hx
          rcases List.mem_append.1 hx with h | h
          · exact HA.out x h
          · rw [List.mem_singleton.1 h]; exact hy.1
        have hsz := join_sz HA.out HJ.out (Nat.le_trans (sum_take fs k) HM.out)
        obtain ⟨hbs, hbn⟩ := limits_sz hy.1.limits
        have C2 := hide (refJoin_any w3 _ _ j (got s.data.toList) HT3.out hy.2 HJ.out.ok hy.1.batch hsz hbs (by omega))
        have HA2 := hide hall
        have HOk : Hid (∀ bs ∈ gots (fs.take k), BatchOk bs) := fun bs hbs => by
          obtain ⟨x, hx, rfl⟩ := List.mem_map.1 hbs
          exact (HA.out x hx).batch
        have HG : Hid (gots (fs.take (k + 1)) = gots (fs.take k) ++ [got s.data.toList]) := by show _ = _; rw [take_next HX.out]; simp [gots]
        clear hno3 hy3 hb3 C HT HB HT3 hy hall hsz hbs hbn HA c0
        go_wp2_with fail
        refine C2.out.mono ?_
        rintro e w4 ⟨v4, j4, rfl, hj4, _, hT4, hb4⟩
        have HB4 : Hid (Below W.heap.size W w4) := HB3.out.trans (hb4.mono (by omega))
        have HT4 := hide hT4
        have HJ4 : Hid (IsJoin (gots (fs.take (k + 1))) j4) := by
          show IsJoin _ _
          rw [HG.out]
          exact HJ.out.group hj4 HOk.out
        clear hj4 hT4 hb4 C2 HB3 HJ HOk HG
        go_wp2
        go_roundw
        case rel => exact ⟨k + 1, j4, by omega, by go_num, HA2.out, HJ4.out, HT4.out, HB4.out⟩
        case measure => simp [intOf]; omega
    · obtain rfl : k = fs.length := by omega
      have hA := HA.out
      have hJ := HJ.out
      rw [List.take_length] at hA hJ
      have hsz := join_sz hA hJ HM.out
      have C := hide (refWithin_any wr.heap.size _ j wr HT.out (Nat.le_refl _) (by have := hsz.1; omega))
      have HA2 := hide hA
      have HJ2 := hide hJ
      clear hA hJ hsz HA HJ
      go_wp2_with fail
      refine C.out.mono ?_
      rintro e w3 ⟨⟨r, rfl, hr⟩, hb3⟩
      have hs3 := hb3.size
      have HB3 : Hid (Below W.heap.size W w3) := HB.out.trans (hb3.mono hws)
      have HT3 : Hid (BatchAt w3 w3.heap.size (.slice ja j.length jc) j) := onB HT.out hb3
      cases r with
      | false =>
        have HN : Hid (MergeOf fs (.returned (.tuple #[.string ByteArray.empty, .int .i64 2]))) := .inl ⟨HA2.out, j, 2, HJ2.out, .inr (.inl ⟨rfl, HJ2.out.ok, fun h => by have := hr.2 h; cases this⟩), rfl⟩
        clear hr hb3 C HT HB HT3
        go_wp2
        go_ret2
        exact ⟨HN.out, HB3.out⟩
      | true =>
        have hl := hr.1 rfl
        have C2 := hide (refFrame_any w3.heap.size _ j w3 HT3.out (Nat.le_refl _) (fits_of HJ2.out.ok hl))
        have HL := hide hl
        clear hr hb3 C HT HB HT3 hl
        go_wp2_with fail
        refine C2.out.mono ?_
        rintro e w4 ⟨rfl, hb4⟩
        have HB4 : Hid (Below W.heap.size W w4) := HB3.out.trans (hb4.mono (by omega))
        have HN : Hid (MergeOf fs (.returned (.tuple #[.string (BA (frameOf (payload j))), .int .i64 0]))) := .inl ⟨HA2.out, j, 0, HJ2.out, .inr (.inr ⟨rfl, HJ2.out.ok, HL.out⟩), rfl⟩
        clear hb4 C2 HB3
        generalize BA (frameOf (payload j)) = fb at *
        go_wp2
        go_ret2
        exact ⟨HN.out, HB4.out⟩
end Go.Proofs.YtamcclcbmenjdaaGreatDoor

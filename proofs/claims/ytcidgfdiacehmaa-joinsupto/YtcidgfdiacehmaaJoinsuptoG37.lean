/- 'choirlaw.Joins', for any two lists of series of bulk at most 1048576: Join answers the document's join or error, either way round; what is handed in stays, what comes out is its owner's. The second form's statement: its only condition is the row's own bound on the arguments' bulk. -/
import Derived.Test.YtcidgfdiacehmaaJoinsuptoG36
/- choirlaw.joins: the walk. -/
namespace Go.Proofs.Ytcidgfdiacehmaa
open Go.RowKit Go.Lib

/-- A list that reads so as long as all but K is as it was. -/
def Lasting (w : World) (K : Nat → Prop) (v : Value) (vals : List (Value × Value)) (bs : List Ser) : Prop := ∀ w', (∀ k, k < w.heap.size → ¬ K k → w'.heap[k]? = w.heap[k]?) → BatchV w' w.heap.size v vals bs
/-- All but K is as it was. -/
def RestS (w w' : World) (K : Nat → Prop) : Prop := ∀ k, k < w.heap.size → ¬ K k → w'.heap[k]? = w.heap[k]?
theorem RestS.below {w w1 w2 : World} {K : Nat → Prop} (h : RestS w w1 K) (hs : w.heap.size ≤ w1.heap.size) (hb : Below w1.heap.size w1 w2) : RestS w w2 K := fun k hk hK => (hb.block k (by omega)).trans (h k hk hK)
structure Fit (a : List Ser) : Prop where
  sz : Sz 2000000 a 0
  sam : samN a ≤ 10000000
theorem Fit.mid {a : List Ser} (h : Fit a) : Mid a := ⟨by have := h.sz.1; omega, fun s hs => by have := h.sz.2 s hs; omega⟩
theorem Fit.big {a : List Ser} (h : Fit a) : Sz 100000000 a 0 := ⟨by have := h.sz.1; omega, fun s hs => by have := h.sz.2 s hs; omega⟩
theorem samN_flip (a : List Ser) : samN (flipB a) = samN a := by
  induction a with
  | nil => rfl
  | cons s r ih =>
    have e1 : samN (flipB (s :: r)) = (flipS s.2).length + samN (flipB r) := by simp [samN, flipB]
    have e2 : samN (s :: r) = s.2.length + samN r := by simp [samN]
    rw [e1, e2, ih, flipS_length]
theorem Fit.flip {a : List Ser} (h : Fit a) : Fit (flipB a) := ⟨⟨by rw [flipB_length]; exact h.sz.1, fun s hs => by
  obtain ⟨t, ht, rfl⟩ := List.mem_map.1 hs
  have := h.sz.2 t ht
  exact ⟨this.1, by show (flipS t.2).length ≤ _; rw [flipS_length]; exact this.2⟩⟩, by rw [samN_flip]; exact h.sam⟩
theorem lim_len {a : List Ser} (h : LimitsOk a) : a.length ≤ 1000000 ∧ ∀ s ∈ a, s.1.length ≤ 1000000 ∧ s.2.length ≤ 1000000 := ⟨by have := h.2; omega, fun s hs => by have := limits_mem h s hs; omega⟩

set_option maxRecDepth 100000 in
set_option maxHeartbeats 2000000 in
theorem joins_any (w : World) (B kb : Nat) (K : Nat → Prop) (sv lv mv va vb : Value) (ns nl nm : Nat) (a b : List Ser) (ua ub : List (Value × Value)) (hBk : Book w kb K sv lv mv ns nl nm) (hm : ns % 4 = 0 ∧ nl % 4 = 0 ∧ nm % 4 = 0) (hn : ns ≤ 100000 ∧ nl ≤ 100000 ∧ nm ≤ 100000) (hK : ∀ k, K k → B ≤ k) (hBw : B ≤ w.heap.size) (hA : Lasting w K va ua a) (hB : Lasting w K vb ub b) (fa : Fit a) (fb : Fit b) :
    Calls Try.prog 5 #[va, vb, .pointer (some ⟨kb, 0, none⟩)] w fun e w' => e = .returned (.bool true) ∧ Below B w w' ∧ ∃ K' sv' lv' mv' ns' nl' nm', Book w' kb K' sv' lv' mv' ns' nl' nm' ∧ (ns' % 4 = 0 ∧ nl' % 4 = 0 ∧ nm' % 4 = 0) ∧ (ns' ≤ ns + 8 ∧ nl' ≤ nl + 64 ∧ nm' ≤ nm + 64) ∧ (∀ k, K' k → K k ∨ w.heap.size ≤ k) ∧ RestS w w' K := by
  have hVa := hA w fun _ _ _ => rfl
  have hVb := hB w fun _ _ _ => rfl
  obtain ⟨aa, ac, rfl⟩ := hVa.batchAt.slice
  obtain ⟨ba, bc, rfl⟩ := hVb.batchAt.slice
  have hal := hVa.1
  have hbl := hVb.1
  have HIa := hide hVa.inR
  have HIb := hide hVb.inR
  have HA := hide hA
  have HB := hide hB
  have HFa := hide fa
  have HFb := hide fb
  have HK := hide hK
  have HKl := hide hBk.lt
  have HMa := hide fa.mid
  have HMb := hide fb.mid
  have C := hide (roomy_any w.heap.size _ ua a w hVa (Nat.le_refl _) fa.mid.series fa.mid.lists)
  have HBk0 := hide hBk
  clear hVa hVb hA hB fa fb hK hBk
  go_enter Try.func5, Try.ntmps5
  go_wp2_with fail
  refine C.out.mono ?_
  rintro e w1 ⟨x, rfl, ⟨rx, hX⟩, hb1⟩
  have hs1 := hb1.size
  obtain ⟨xa, xn, xc, rfl⟩ := hX.shape
  have HR1 : Hid (RestS w w1 K) := fun k hk _ => hb1.block k hk
  have HW1 := hide (hb1.mono hBw)
  have HX1 := hide hX
  have HBk1 := hide (HBk0.out.below hb1)
  have HXb : Hid (∀ k, sBlocks rx k → w.heap.size ≤ k ∧ k < w1.heap.size) := fun k hk => hX.blocks hal hk
  have C := hide (roomy_any w.heap.size _ ub b w1 (HB.out w1 HR1.out) hs1 HMb.out.series HMb.out.lists)
  clear hX hb1 HBk0
  go_wp2_with fail
  refine C.out.mono ?_
  rintro e w2 ⟨y, rfl, ⟨ry, hY⟩, hb2⟩
  have hs2 := hb2.size
  obtain ⟨ya, yn, yc, rfl⟩ := hY.shape
  have HR2 := hide (HR1.out.below hs1 hb2)
  have HW2 := hide (HW1.out.trans (hb2.mono (by omega)))
  have HX2 := hide (HX1.out.below hb2)
  have HY2 := hide hY
  have HBk2 := hide (HBk1.out.below hb2)
  have C := hide (join_one w2 _ _ a b (HX2.out.batchAt hal HIa.out) (hY.batchAt hbl HIb.out) HMa.out.small HMb.out.small)
  clear hY hb2 HBk1 HX1 HR1 HW1
  go_wp2_with fail
  refine C.out.mono ?_
  rintro e w3 ⟨n, j, jv, hj, rfl, hF, hJ, hb3⟩
  obtain ⟨ja, jc, rfl⟩ := hJ.slice
  have hs3 := hb3.size
  have HR3 := hide (HR2.out.below (by omega) hb3)
  have HW3 := hide (HW2.out.trans (hb3.mono (by omega)))
  have HBk3 := hide (HBk2.out.below hb3)
  have HF3 := hide hF
  have HJ3 := hide hJ
  have HJo := hide hj
  have C := hide (joined_one w3 _ _ a b ((HA.out w3 HR3.out).batchAt.wider (by omega)) ((HB.out w3 HR3.out).batchAt.wider (by omega)) HFa.out.big HFb.out.big (by have := HFb.out.sam; omega))
  have HD3 : Hid (Below w2.heap.size w2 w3) := hb3
  clear hj hF hJ hb3 HBk2 HR2 HW2
  go_wp2_with fail
  refine C.out.mono ?_
  rintro e w4 ⟨n2, j2, wv, hj2, rfl, hJ2, hb4⟩
  obtain ⟨rfl, hjj⟩ := hj2.same HJo.out
  rw [hjj] at hJ2
  obtain ⟨wa, wc, rfl⟩ := hJ2.slice
  have hs4 := hb4.size
  have HR4 := hide (HR3.out.below (by omega) hb4)
  have HW4 := hide (HW3.out.trans (hb4.mono (by omega)))
  have HD4 := hide (HD3.out.trans (hb4.mono (by omega)))
  have HBk4 := hide (HBk3.out.below hb4)
  have HF4 := hide (HF3.out.below hb4)
  have C := hide (refSame_any _ _ (jj n2 j) w4 (onB HJ3.out hb4) hJ2 (small_of HJo.out.limits))
  clear hj2 hJ2 hb4 hjj HBk3 HD3 HR3 HW3 HF3 HJ3
  generalize hjn : jj n2 j = J at *
  have HLj : Hid (LimitsOk J) := by rw [← hjn]; exact HJo.out.limits
  clear hjn HJo
  go_wp2_with fail
  refine C.out.mono ?_
  rintro e w5 ⟨rfl, hb5⟩
  have hs5 := hb5.size
  have HR5 := hide (HR4.out.below (by omega) hb5)
  have HW5 := hide (HW4.out.trans (hb5.mono (by omega)))
  have HD5 := hide (HD4.out.trans (hb5.mono (by omega)))
  obtain ⟨hm1, hm2, hm3⟩ := hm
  obtain ⟨hn1, hn2, hn3⟩ := hn
  have hlj := HLj.out.2
  have C := hide (keep_any w5 B w2.heap.size kb K sv lv mv _ ns nl nm J (HBk4.out.below hb5) ⟨hm1, hm2, hm3⟩ ⟨by omega, by omega, by omega⟩ (HF4.out.below hb5) (by omega) (by omega) (fun k hk => ⟨HK.out k hk, by have := HKl.out k hk; omega⟩) (lim_len HLj.out))
  clear hb5 HBk4 HD4 HR4 HW4 HF4
  go_wp2_with fail
  refine C.out.mono ?_
  rintro e w6 ⟨rfl, K6, sv6, lv6, mv6, h6⟩
  have hs6 := h6.below.size
  have HR6 : Hid (RestS w w6 K) := fun k hk hK => (h6.keep k (by omega) hK).trans (HR5.out k hk hK)
  have HW6 := hide (HW5.out.trans h6.below)
  have hk6 : ∀ k, w.heap.size ≤ k → k < w2.heap.size → w6.heap[k]? = w2.heap[k]? := fun k h1 h2 => (h6.keep k h2 (fun hk => by have := HKl.out k hk; omega)).trans (HD5.out.block k h2)
  have HX6 := hide (HX2.out.kept (w' := w6) hk6)
  have HY6 := hide (HY2.out.kept (w' := w6) (fun k h1 h2 => hk6 k (by omega) h2))
  have HBk6 := hide h6.book
  have HS6 : Hid (∀ k, K6 k → K k ∨ w2.heap.size ≤ k) := h6.sub
  have C := hide (whole_any w.heap.size w.heap.size _ _ ua a rx w6 HX6.out (HA.out w6 HR6.out) HMa.out.series HMa.out.lists)
  have hs56 : w2.heap.size ≤ w6.heap.size := by omega
  clear h6 hk6 HX2 HY2 HD5 HR5 HW5
  go_wp2_with fail
  refine C.out.mono ?_
  rintro e w7 ⟨rfl, q7, rfl⟩
  have HR7 : Hid (RestS w (w6.drewN q7) K) := HR6.out
  have HW7 : Hid (Below B w (w6.drewN q7)) := HW6.out.trans ⟨rfl, rfl, rfl, Nat.le_refl _, fun _ _ => rfl⟩
  have HX7 := hide (HX6.out.kept (w' := w6.drewN q7) fun _ _ _ => rfl)
  have HY7 := hide (HY6.out.kept (w' := w6.drewN q7) fun _ _ _ => rfl)
  have HBk7 := hide (HBk6.out.below (w' := w6.drewN q7) ⟨rfl, rfl, rfl, Nat.le_refl _, fun _ _ => rfl⟩)
  have hs7 : (w6.drewN q7).heap.size = w6.heap.size := rfl
  generalize w6.drewN q7 = W7 at *
  have C := hide (whole_any w1.heap.size w.heap.size _ _ ub b ry W7 HY7.out (HB.out W7 HR7.out) HMb.out.series HMb.out.lists)
  clear HR6 HW6 HX6 HY6 HBk6
  go_wp2_with fail
  refine C.out.mono ?_
  rintro e w8 ⟨rfl, q8, rfl⟩
  have HR8 : Hid (RestS w (W7.drewN q8) K) := HR7.out
  have HW8 : Hid (Below B w (W7.drewN q8)) := HW7.out.trans ⟨rfl, rfl, rfl, Nat.le_refl _, fun _ _ => rfl⟩
  have HX8 := hide (HX7.out.kept (w' := W7.drewN q8) fun _ _ _ => rfl)
  have HY8 := hide (HY7.out.kept (w' := W7.drewN q8) fun _ _ _ => rfl)
  have HBk8 := hide (HBk7.out.below (w' := W7.drewN q8) ⟨rfl, rfl, rfl, Nat.le_refl _, fun _ _ => rfl⟩)
  have hs8 : (W7.drewN q8).heap.size = W7.heap.size := rfl
  generalize W7.drewN q8 = W8 at *
  have C := hide (stays_any W8 kb K6 sv6 lv6 mv6 _ _ _ HBk8.out (by omega) (by omega) (by omega))
  clear HR7 HW7 HX7 HY7 HBk7
  go_wp2_with fail
  refine C.out.mono ?_
  rintro e w9 ⟨rfl, hb9⟩
  have hs9 := hb9.size
  have HR9 := hide (HR8.out.below (by omega) hb9)
  have HW9 := hide (HW8.out.trans (hb9.mono (by omega)))
  have HX9 := hide (HX8.out.below hb9)
  have HY9 := hide (HY8.out.below hb9)
  have HBk9 := hide (HBk8.out.below hb9)
  have C := hide (lturned_any w.heap.size _ ua a w9 (HA.out w9 HR9.out) (by omega) HMa.out.series (fun s hs => (HMa.out.lists s hs).2))
  clear hb9 HR8 HW8 HX8 HY8 HBk8
  go_wp2_with fail
  refine C.out.mono ?_
  rintro e w10 ⟨c, rfl, ⟨cv, hTu⟩, hb10⟩
  have hs10 := hb10.size
  obtain ⟨ca, cn, cc, rfl⟩ := hTu.shape
  have HR10 := hide (HR9.out.below (by omega) hb10)
  have HW10 := hide (HW9.out.trans (hb10.mono (by omega)))
  have HX10 := hide (HX9.out.below hb10)
  have HY10 := hide (HY9.out.below hb10)
  have HBk10 := hide (HBk9.out.below hb10)
  have C := hide (over_any w.heap.size w9.heap.size _ _ _ ua cv a rx w10 HX10.out hTu hal (fun k hk => by have := (HXb.out k hk).2; omega) ⟨HMa.out.series, fun s hs => (HMa.out.lists s hs).2⟩)
  have HTu := hide hTu
  clear hTu hb10 HR9 HW9 HX9 HY9 HBk9
  go_wp2_with fail
  refine C.out.mono ?_
  rintro e w11 ⟨rfl, hX11, hk11, hb11⟩
  have hs11 := hb11.size
  have HR11 : Hid (RestS w w11 K) := fun k hk hK => (hk11 k (fun hs => by have := (HXb.out k hs).1; omega)).trans (HR10.out k hk hK)
  have HW11 := hide (HW10.out.trans (hb11.mono hBw))
  have HY11 := hide (HY10.out.kept (w' := w11) fun k h1 _ => hk11 k (fun hs => by have := (HXb.out k hs).2; omega))
  have HBk11 := hide (HBk10.out.kept (w' := w11) (K' := K6) (fun k hk => hk11 k (fun hs => by
    have h1 := HXb.out k hs
    rcases HS6.out k hk with h2 | h2
    · have := HKl.out k h2; omega
    · omega)) (fun _ h => h) (fun k hk => Nat.lt_of_lt_of_le (HBk10.out.lt k hk) hs11))
  have hTu11 := HTu.out.kept (w' := w11) fun k hk _ => hk11 k fun hs => by have := (HXb.out k hs).2; omega
  have HK6lt : Hid (∀ k, K6 k → k < w11.heap.size) := HBk11.out.lt
  have HV11 := hide (hTu11.batchV (HA.out w11 HR11.out) (by omega))
  have C := hide (join_one w11 _ _ (flipB a) b (hX11.batchAt (by rw [flipB_length]; exact hal) HIa.out.flip) (HY11.out.batchAt hbl HIb.out) HMa.out.flip.small HMb.out.small)
  clear hX11 hk11 hb11 hTu11 HTu HR10 HW10 HX10 HY10 HBk10
  go_wp2_with fail
  refine C.out.mono ?_
  rintro e w12 ⟨n3, j3, lv3, hj3, rfl, hF3, hJ3, hb12⟩
  obtain ⟨l3a, l3c, rfl⟩ := hJ3.slice
  have hs12 := hb12.size
  have HR12 := hide (HR11.out.below (by omega) hb12)
  have HW12 := hide (HW11.out.trans (hb12.mono (by omega)))
  have HBk12 := hide (HBk11.out.below hb12)
  have HV12 := hide (HV11.out.below hb12 (Nat.le_refl _))
  have HF12 := hide hF3
  have HJ12 := hide hJ3
  have HJo3 := hide hj3
  obtain ⟨c2a, c2c, hc2⟩ := HV12.out.batchAt.slice
  have C := hide (joined_one w12 _ _ (flipB a) b (HV12.out.batchAt.wider (by omega)) ((HB.out w12 HR12.out).batchAt.wider (by omega)) HFa.out.flip.big HFb.out.big (by have := HFb.out.sam; omega))
  clear hj3 hF3 hJ3 hb12 hc2 HBk11 HR11 HW11 HV11 HY11
  go_wp2_with fail
  refine C.out.mono ?_
  rintro e w13 ⟨n4, j4, mv4, hj4, rfl, hJ4, hb13⟩
  obtain ⟨rfl, hjj4⟩ := hj4.same HJo3.out
  rw [hjj4] at hJ4
  obtain ⟨m4a, m4c, rfl⟩ := hJ4.slice
  have hs13 := hb13.size
  have HR13 := hide (HR12.out.below (by omega) hb13)
  have HW13 := hide (HW12.out.trans (hb13.mono (by omega)))
  have HBk13 := hide (HBk12.out.below hb13)
  have HF13 := hide (HF12.out.below hb13)
  have C := hide (refSame_any _ _ (jj n4 j3) w13 (onB HJ12.out hb13) hJ4 (small_of HJo3.out.limits))
  clear hj4 hJ4 hb13 hjj4 HBk12 HR12 HW12 HF12 HJ12 HV12
  generalize hjn3 : jj n4 j3 = J3 at *
  have HLj3 : Hid (LimitsOk J3) := by rw [← hjn3]; exact HJo3.out.limits
  clear hjn3 HJo3
  go_wp2_with fail
  refine C.out.mono ?_
  rintro e w14 ⟨rfl, hb14⟩
  have hs14 := hb14.size
  have HR14 := hide (HR13.out.below (by omega) hb14)
  have HW14 := hide (HW13.out.trans (hb14.mono (by omega)))
  have hlj3 := HLj3.out.2
  have HBkE := hide (HBk13.out.below hb14)
  have HK6 : Hid (∀ k, K6 k → k < w11.heap.size) := HK6lt.out
  have C := hide (keep_any w14 B w11.heap.size kb K6 sv6 lv6 mv6 _ (ns + 4) (nl + 4 * J.length) (nm + 4 * J.length) J3 HBkE.out ⟨by omega, by omega, by omega⟩ ⟨by omega, by omega, by omega⟩ (HF13.out.below hb14) (by omega) (by omega) (fun k hk => ⟨by
    rcases HS6.out k hk with h | h
    · exact HK.out k h
    · omega, HK6.out k hk⟩) (lim_len HLj3.out))
  clear hb14 HBk13 HR13 HW13 HF13
  go_wp2_with fail
  refine C.out.mono ?_
  rintro e w15 ⟨rfl, K15, sv15, lv15, mv15, h15⟩
  have hs15 := h15.below.size
  have HR15 : Hid (RestS w w15 K) := fun k hk hK => (h15.keep k (by omega) (fun h => by
    rcases HS6.out k h with h | h
    · exact hK h
    · omega)).trans (HR14.out k hk hK)
  have HW15 := hide (HW14.out.trans h15.below)
  have HBk15 := hide h15.book
  have HS15 : Hid (∀ k, K15 k → K k ∨ w.heap.size ≤ k) := fun k hk => by
    rcases h15.sub k hk with h | h
    · rcases HS6.out k h with h | h
      · exact .inl h
      · exact .inr (by omega)
    · exact .inr (by omega)
  have C := hide (stays_any w15 kb K15 sv15 lv15 mv15 _ _ _ HBk15.out (by omega) (by omega) (by omega))
  clear h15 HR14 HW14 HBkE
  go_wp2_with fail
  refine C.out.mono ?_
  rintro e w16 ⟨rfl, hb16⟩
  have HW16 := hide (HW15.out.trans (hb16.mono (by omega)))
  have HR16 := hide (HR15.out.below (by omega) hb16)
  have HBk16 := hide (HBk15.out.below hb16)
  clear hb16 HBk15 HR15 HW15
  go_wp2
  go_ret
  exact ⟨rfl, HW16.out, K15, sv15, lv15, mv15, _, _, _, HBk16.out, ⟨by omega, by omega, by omega⟩, ⟨by omega, by omega, by omega⟩, HS15.out, HR16.out⟩
end Go.Proofs.Ytcidgfdiacehmaa

/- choirlaw.Joins: the walk. -/
namespace Go.Proofs.Ytcidgfdiacehmaa
open Go.RowKit Go.Lib

theorem BatchV.wider {w : World} {B B' : Nat} {v : Value} {vals : List (Value × Value)} {bs : List Ser} (h : BatchV w B v vals bs) (hB : B ≤ B') : BatchV w B' v vals bs := by
  obtain ⟨hl, a, cap, hv, hc, h2, h3⟩ := h
  exact ⟨hl, a, cap, hv, hc, h2.imp id fun ⟨b, o, ha, hb, hh⟩ => ⟨b, o, ha, by omega, hh⟩, fun i p x hp hx => ⟨(h3 i p x hp hx).1.wider hB, (h3 i p x hp hx).2.wider hB⟩⟩
theorem lasting_of {W w : World} {K : Nat → Prop} {v : Value} {vals : List (Value × Value)} {bs : List Ser} (hV : BatchV W W.heap.size v vals bs) (hb : Below W.heap.size W w) (hK : ∀ k, K k → W.heap.size ≤ k) : Lasting w K v vals bs := fun w' h =>
  (hV.kept fun k hk => (h k (by have := hb.size; omega) (fun hk2 => by have := hK k hk2; omega)).trans (hb.block k hk)).wider hb.size
theorem book_new (W : World) : Book (W.alloc (.cells #[.slice none 0 0, .slice none 0 0, .slice none 0 0, .slice none 0 0] 29)) W.heap.size (fun k => k = W.heap.size) (.slice none 0 0) (.slice none 0 0) (.slice none 0 0) 0 0 0 := by
  have hr : ∀ (T : Nat) (P : Nat → Value → Prop), RowM (W.alloc (.cells #[.slice none 0 0, .slice none 0 0, .slice none 0 0, .slice none 0 0] 29)) (fun k => k = W.heap.size) T P (.slice none 0 0) 0 := fun T P => ⟨[], World.ownsRow_nil _ _ _ _, (fun k e => by cases e), fun i u h => by simp at h⟩
  exact ⟨fun k hk => by subst hk; simp, rfl, heap_alloc_new W _, hr _ _, hr _ _, hr _ _⟩
/-- The law's own two lists. -/
theorem lasting_lit (w : World) (K : Nat → Prop) (hK : ∀ k, K k → k < w.heap.size) :
    Lasting ((w.alloc (.cells #[.int .i64 1, .int .u64 2] 33)).alloc (.cells #[.slice none 0 0, .slice (some ⟨w.heap.size, 0, none⟩) 1 1] 37)) K (.slice (some ⟨w.heap.size + 1, 0, none⟩) 1 1) [(.slice none 0 0, .slice (some ⟨w.heap.size, 0, none⟩) 1 1)] [([], [(1, 2)])] := fun w' h => by
  have hs : ((w.alloc (.cells #[.int .i64 1, .int .u64 2] 33)).alloc (.cells #[.slice none 0 0, .slice (some ⟨w.heap.size, 0, none⟩) 1 1] 37)).heap.size = w.heap.size + 2 := by simp
  have h0 : w'.heap[w.heap.size]? = some (.cells #[.int .i64 1, .int .u64 2] 33) := (h w.heap.size (by omega) (fun hk => by have := hK _ hk; omega)).trans ((heap_alloc_old _ _ (by simp)).trans (heap_alloc_new w _))
  have h1 : w'.heap[w.heap.size + 1]? = some (.cells #[.slice none 0 0, .slice (some ⟨w.heap.size, 0, none⟩) 1 1] 37) := (h (w.heap.size + 1) (by omega) (fun hk => by have := hK _ hk; omega)).trans (by
    have := heap_alloc_new (w.alloc (.cells #[.int .i64 1, .int .u64 2] 33)) (.cells #[.slice none 0 0, .slice (some ⟨w.heap.size, 0, none⟩) 1 1] 37)
    simpa using this)
  obtain ⟨a0, a1, _⟩ := box_cells h0
  obtain ⟨b0, b1, _⟩ := box_cells h1
  refine ⟨rfl, _, 1, rfl, Nat.le_refl _, .inr ⟨w.heap.size + 1, 0, rfl, by omega, fun i p hp => ?_⟩, fun i p x hp hx => ?_⟩
  · match i, hp with
    | 0, hp => simp at hp; subst hp; exact ⟨b0, b1⟩
    | i + 1, hp => simp at hp
  · match i, hp, hx with
    | 0, hp, hx =>
      simp at hp hx
      subst hp; subst hx
      refine ⟨⟨none, 0, rfl, Nat.le_refl _, .inl rfl⟩, ⟨_, 1, rfl, Nat.le_refl _, fun x hx => ?_, .inr ⟨w.heap.size, 0, rfl, by omega, fun i x hx => ?_⟩⟩⟩
      · rw [List.mem_singleton.1 hx]; decide
      · match i, hx with
        | 0, hx => simp at hx; subst hx; exact ⟨a0, a1⟩
        | i + 1, hx => simp at hx
    | i + 1, hp, _ => simp at hp
theorem fit_nil : Fit [] := ⟨⟨by simp, fun s h => by cases h⟩, by simp [samN]⟩
theorem fit_lit : Fit [([], [(1, 2)])] := ⟨⟨by simp, fun s h => by rw [List.mem_singleton.1 h]; simp⟩, by simp [samN]⟩
theorem lasting_nil (w : World) (K : Nat → Prop) : Lasting w K (.slice none 0 0) [] [] := fun w' _ => ⟨rfl, none, 0, rfl, Nat.le_refl _, .inl rfl, fun i p x h _ => by simp at h⟩

set_option maxRecDepth 100000 in
set_option maxHeartbeats 1000000 in
theorem Joins_any (W : World) (va vb : Value) (a b : List Ser) (hA : BatchAt W W.heap.size va a) (hB : BatchAt W W.heap.size vb b) (fa : Fit a) (fb : Fit b) :
    Calls Try.prog 3 #[va, vb] W fun e w' => e = .returned (.bool true) ∧ Below W.heap.size W w' := by
  obtain ⟨ua, hVa⟩ := hA.vals
  obtain ⟨ub, hVb⟩ := hB.vals
  obtain ⟨aa, ac, rfl⟩ := hA.slice
  obtain ⟨ba, bc, rfl⟩ := hB.slice
  have hb0 : Below W.heap.size W (W.alloc (.cells #[.slice none 0 0, .slice none 0 0, .slice none 0 0, .slice none 0 0] 29)) := (Below.refl _ _).alloc (Nat.le_refl _) _
  have C := hide (joins_any _ W.heap.size W.heap.size _ _ _ _ _ _ 0 0 0 a b ua ub (book_new W) ⟨rfl, rfl, rfl⟩ ⟨by omega, by omega, by omega⟩ (fun k hk => by omega) (by simp) (lasting_of hVa hb0 (fun k hk => by omega)) (lasting_of hVb hb0 (fun k hk => by omega)) fa fb)
  have HB0 := hide hb0
  have HVa := hide hVa
  have HVb := hide hVb
  have HFa := hide fa
  have HFb := hide fb
  have hs0 : W.heap.size ≤ (W.alloc (.cells #[.slice none 0 0, .slice none 0 0, .slice none 0 0, .slice none 0 0] 29)).heap.size := by simp
  clear hA hB hVa hVb hb0 fa fb
  go_enter Try.func3, Try.ntmps3
  go_wp2_with fail
  refine C.out.mono ?_
  rintro e w1 ⟨rfl, hb1, K1, sv1, lv1, mv1, s1, l1, m1, hk1, hm1, hn1, hK1, -⟩
  have HB1 := hide (HB0.out.trans hb1)
  have HK1 : Hid (∀ k, K1 k → W.heap.size ≤ k) := fun k hk => by
    rcases hK1 k hk with h | h
    · omega
    · omega
  have C := hide (joins_any w1 W.heap.size W.heap.size K1 sv1 lv1 mv1 _ _ s1 l1 m1 b a ub ua hk1 hm1 ⟨by omega, by omega, by omega⟩ HK1.out HB1.out.size (lasting_of HVb.out HB1.out HK1.out) (lasting_of HVa.out HB1.out HK1.out) HFb.out HFa.out)
  clear hb1 hk1 hK1 HB0
  go_wp2_with fail
  refine C.out.mono ?_
  rintro e w2 ⟨rfl, hb2, K2, sv2, lv2, mv2, s2, l2, m2, hk2, hm2, hn2, hK2, -⟩
  have hs1 := HB1.out.size
  have HB2 := hide (HB1.out.trans hb2)
  have HK2 : Hid (∀ k, K2 k → W.heap.size ≤ k) := fun k hk => by
    rcases hK2 k hk with h | h
    · exact HK1.out k h
    · omega
  have C := hide (joins_any w2 W.heap.size W.heap.size K2 sv2 lv2 mv2 _ _ s2 l2 m2 a a ua ua hk2 hm2 ⟨by omega, by omega, by omega⟩ HK2.out HB2.out.size (lasting_of HVa.out HB2.out HK2.out) (lasting_of HVa.out HB2.out HK2.out) HFa.out HFa.out)
  clear hb2 hk2 hK2 HB1 HK1
  go_wp2_with fail
  refine C.out.mono ?_
  rintro e w3 ⟨rfl, hb3, K3, sv3, lv3, mv3, s3, l3, m3, hk3, hm3, hn3, hK3, -⟩
  have hs2 := HB2.out.size
  have HB3 := hide (HB2.out.trans hb3)
  have HK3 : Hid (∀ k, K3 k → W.heap.size ≤ k) := fun k hk => by
    rcases hK3 k hk with h | h
    · exact HK2.out k h
    · omega
  have hlt3 := hk3.lt
  have hbx : Below w3.heap.size w3 ((w3.alloc (.cells #[.int .i64 1, .int .u64 2] 33)).alloc (.cells #[.slice none 0 0, .slice (some ⟨w3.heap.size, 0, none⟩) 1 1] 37)) := ((Below.refl _ _).alloc (Nat.le_refl _) _).alloc (by simp) _
  have hs3 := HB3.out.size
  have C := hide (joins_any _ W.heap.size W.heap.size K3 sv3 lv3 mv3 _ _ s3 l3 m3 [([], [(1, 2)])] [] _ [] (hk3.below hbx) hm3 ⟨by omega, by omega, by omega⟩ HK3.out (by simp; omega) (lasting_lit w3 K3 hlt3) (lasting_nil _ _) fit_lit fit_nil)
  have HB4 := hide (HB3.out.trans (hbx.mono hs3))
  clear hb3 hk3 hK3 HB2 HK2 hlt3 hbx
  go_wp2_with fail
  refine C.out.mono ?_
  rintro e w4 ⟨rfl, hb4, -⟩
  have HB5 := hide (HB4.out.trans hb4)
  clear hb4
  go_wp2
  go_ret
  exact ⟨rfl, HB5.out⟩
end Go.Proofs.Ytcidgfdiacehmaa

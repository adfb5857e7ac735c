/- 'choirkeep.Lattice', for any three lists of raw samples: joins do not hang on order, grouping and how often; with bytes and without it is the same. The first form's statement and its card: no condition beside the row's own. -/
import Derived.Test.YtamcclcbmenjdaaGreatDoorLatticeG31
import Derived.Test.YtamcclcbmenjdaaGreatDoorLatticeG19
import Derived.Test.YtamcclcbmenjdaaGreatDoorLatticeG20
/- choirkeep's joined. -/
namespace Go.Proofs.YtamcclcbmenjdaaGreatDoor
open Go.RowKit Go.Lib

theorem two_ranged {w : World} {B : Nat} {va vb : Value} {a b j : List Ser} (ha : BatchAt w B va a) (hb : BatchAt w B vb b) (hj : IsJoin [a, b] j) : ∀ s ∈ j, Ranged s := fun s hs x hx => by
  obtain ⟨⟨bs, hbs, r, hr, _, hm⟩, _⟩ := (hj.holds s.1 x.1 x.2).1 ⟨s, hs, rfl, hx⟩
  rcases List.mem_cons.1 hbs with e | hbs
  · rw [e] at hr; exact ha.ranged r hr _ hm
  · rw [List.mem_singleton.1 hbs] at hr; exact hb.ranged r hr _ hm
set_option maxRecDepth 100000 in
set_option maxHeartbeats 1000000 in
theorem kjoined_any (W : World) (va vb : Value) (a b : List Ser) (ha : BatchAt W W.heap.size va a) (hb : BatchAt W W.heap.size vb b) (hsa : Small a) (hsb : Small b) (oa : BatchOk a) (ob : BatchOk b) (la : LimitsOk a) (lb : LimitsOk b) (hlim : ∀ j, IsJoin [a, b] j → LimitsOk j) :
    Calls Tryz.prog 14 #[va, vb] W fun e w' => ∃ jv j, IsJoin [a, b] j ∧ e = .returned (.tuple #[jv, .bool true]) ∧ BatchAt w' w'.heap.size jv j ∧ LimitsOk j ∧ Below W.heap.size W w' := by
  have C := hide (join_any W va vb a b ha hb hsa hsb)
  have HA := hide ha
  have HB := hide hb
  obtain ⟨aa, ac, rfl, -⟩ := id ha
  obtain ⟨ba, bc, rfl, -⟩ := id hb
  clear ha hb
  go_enter Tryz.func14, Tryz.ntmps14
  go_wp2_with fail
  refine C.out.mono ?_
  rintro e w2 ⟨n, j, hj, hb2, hr⟩
  obtain ⟨hJ, hC⟩ : IsJoin [a, b] j ∧ Code j n := by
    rcases hj with ⟨_, h⟩ | ⟨_, _, _, h⟩ | ⟨_, _, _, _, h⟩
    · exact absurd ⟨oa, ob⟩ h
    · exact absurd ⟨la, lb⟩ h
    · exact h
  have hL := hlim j hJ
  obtain rfl : n = 0 := by
    rcases hC with ⟨_, h⟩ | ⟨_, _, h⟩ | ⟨h, _⟩
    · exact absurd hJ.ok h
    · exact absurd hL h
    · exact h
  rcases hr with ⟨_, jv, rfl, hF⟩ | ⟨h, _⟩
  · have hA : BatchAt w2 w2.heap.size jv j := hF.batchAt (two_ranged HA.out HB.out hJ)
    have HR : Hid (IsJoin [a, b] j ∧ BatchAt w2 w2.heap.size jv j ∧ LimitsOk j ∧ Below W.heap.size W w2) := ⟨hJ, hA, hL, hb2⟩
    clear hj hb2 hJ hC hL hF hA C HA HB hlim
    go_wp2
    go_ret2
    exact ⟨_, j, HR.out.1, rfl, HR.out.2⟩
  · exact absurd rfl h
end Go.Proofs.YtamcclcbmenjdaaGreatDoor

/- choirkeep's Lattice. -/
namespace Go.Proofs.YtamcclcbmenjdaaGreatDoor
open Go.RowKit Go.Lib

theorem RawsAt.below {w w' : World} {B B' : Nat} {v : Value} {l : List (Int × Int × Nat)} (h : RawsAt w B v l) (hb : Below B' w w') (hB : B ≤ B') : RawsAt w' B v l := by
  obtain ⟨a, cap, hv, hr, h2⟩ := h
  refine ⟨a, cap, hv, hr, ?_⟩
  rcases h2 with h2 | ⟨b, o, ha, hbB, hcell⟩
  · exact .inl h2
  · refine .inr ⟨b, o, ha, hbB, fun i x hx => ?_⟩
    obtain ⟨h1, h2, h3⟩ := hcell i x hx
    exact ⟨(hb.cell (p := ⟨b, o + i * 3, none⟩) (by show b < B'; omega)).trans h1, (hb.cell (p := ⟨b, o + i * 3 + 1, none⟩) (by show b < B'; omega)).trans h2, (hb.cell (p := ⟨b, o + i * 3 + 2, none⟩) (by show b < B'; omega)).trans h3⟩
theorem BatchAt.on {w w' : World} {v : Value} {bs : List Ser} (h : BatchAt w w.heap.size v bs) (hb : Below w.heap.size w w') : BatchAt w' w'.heap.size v bs := (h.below hb (Nat.le_refl _)).wider hb.size
/-- joined, of batches of the four kinds. -/
theorem kj_any (W : World) (va vb : Value) (a b : List Ser) (n m : Nat) (ha : BatchAt W W.heap.size va a) (hb : BatchAt W W.heap.size vb b) (oa : BatchOk a) (ob : BatchOk b) (ka : KB a n) (kb : KB b m) (h : n + m ≤ 40) :
    Calls Tryz.prog 14 #[va, vb] W fun e w' => ∃ jv j, IsJoin [a, b] j ∧ e = .returned (.tuple #[jv, .bool true]) ∧ BatchAt w' w'.heap.size jv j ∧ KB j (n + m) ∧ Below W.heap.size W w' := by
  have la := ka.limits (by omega) oa
  have lb := kb.limits (by omega) ob
  refine (kjoined_any W va vb a b ha hb (small_of la) (small_of lb) oa ob la lb fun j hj => (hj.kb ka kb oa ob).limits h hj.ok).mono ?_
  rintro e w' ⟨jv, j, h1, h2, h3, _, h5⟩
  exact ⟨jv, j, h1, h2, h3, h1.kb ka kb oa ob, h5⟩
theorem mergeOf_is {fs : List ByteArray} {e : Ending} {l : List Ser} (h : MergeOf fs e) (hf : ∀ s ∈ fs, IsFrame s.data.toList) (hj : IsJoin (gots fs) l) (hl : LimitsOk l) : e = .returned (.tuple #[.string (BA (frameOf (payload l))), .int .i64 0]) := by
  rcases h with ⟨_, j, n, h1, h2, h3⟩ | ⟨h, _⟩
  · obtain rfl := h1.unique hj
    rcases h2 with ⟨_, h⟩ | ⟨_, _, h⟩ | ⟨rfl, _⟩
    · exact absurd hj.ok h
    · exact absurd hl h
    · exact h3
  · exact absurd hf h
/-- A batch's frame. -/
def fr (bs : List Ser) : ByteArray := BA (frameOf (payload bs))
theorem fr_is {bs : List Ser} (h1 : BatchOk bs) (h2 : LimitsOk bs) (hr : InRange bs) : IsFrame (fr bs).data.toList ∧ got (fr bs).data.toList = bs ∧ (fr bs).size ≤ 140737488355328 := by
  have h := frame_is bs h1 h2 hr
  have hp := payload_bounds (fits_of h1 h2)
  refine ⟨by unfold fr; rw [BA_list]; exact h.1, by unfold fr; rw [BA_list]; exact h.2, ?_⟩
  unfold fr
  rw [BA_size, frameOf_length]; omega
theorem gots_fr {bss : List (List Ser)} (h : ∀ bs ∈ bss, BatchOk bs ∧ LimitsOk bs ∧ InRange bs) : gots (bss.map fr) = bss := by
  unfold gots
  rw [List.map_map]
  conv => rhs; rw [← List.map_id bss]
  exact List.map_congr_left fun bs hbs => (fr_is (h bs hbs).1 (h bs hbs).2.1 (h bs hbs).2.2).2.1
theorem packed_fr (w : World) (v : Value) (bs : List Ser) (hS : BatchAt w w.heap.size v bs) (hT : Tabs w) (h1 : BatchOk bs) (h2 : LimitsOk bs) :
    Calls Tryz.prog 15 #[v] w fun e w' => e = .returned (.tuple #[.string (fr bs), .bool true]) ∧ Below w.heap.size w w' := packed_any w.heap.size v bs w hS (Nat.le_refl _) hT h1 h2
theorem frames_new (w : World) (fs : List ByteArray) : FramesAt (w.alloc (.cells (Strs fs).toArray 9)) (.slice (some ⟨w.heap.size, 0, none⟩) fs.length fs.length) fs :=
  ⟨_, _, rfl, fun i s hs => ⟨w.heap.size, 0, rfl, by simp, by rw [Nat.zero_add, World.cell?_alloc_new]; simp [Strs, hs]⟩⟩
theorem merged_frames (W w : World) (bss : List (List Ser)) (l : List Ser) (hb : Below W.heap.size W w) (hT : Tabs W) (h : ∀ bs ∈ bss, BatchOk bs ∧ LimitsOk bs ∧ InRange bs) (hn : bss.length ≤ 100) (hj : IsJoin bss l) (hl : LimitsOk l) :
    Calls Tryz.prog 11 #[.slice (some ⟨w.heap.size, 0, none⟩) bss.length bss.length] (w.alloc (.cells (Strs (bss.map fr)).toArray 9)) fun e w' => e = .returned (.tuple #[.string (fr l), .int .i64 0]) ∧ Below w.heap.size w w' := by
  have hv := frames_new w (bss.map fr)
  rw [List.length_map] at hv
  have hb2 : Below W.heap.size W (w.alloc (.cells (Strs (bss.map fr)).toArray 9)) := hb.alloc hb.size _
  have hf : ∀ s ∈ bss.map fr, IsFrame s.data.toList ∧ s.size ≤ 140737488355328 := fun s hs => by
    obtain ⟨bs, hbs, rfl⟩ := List.mem_map.1 hs
    have := fr_is (h bs hbs).1 (h bs hbs).2.1 (h bs hbs).2.2
    exact ⟨this.1, this.2.2⟩
  refine (merge_any _ _ (bss.map fr) hv (fun s hs => (hf s hs).2) (by rw [List.length_map]; omega) (hT.below hb2 hT.lt)).mono fun e w' ⟨h1, h2⟩ => ⟨?_, ((Below.refl w.heap.size w).alloc (Nat.le_refl _) _).trans (h2.mono (by simp))⟩
  exact mergeOf_is h1 (fun s hs => (hf s hs).1) (by rw [gots_fr h]; exact hj) hl

set_option maxRecDepth 100000 in
set_option maxHeartbeats 2000000 in
theorem lattice_any (W : World) (v1 v2 v3 : Value) (r1 r2 r3 : List (Int × Int × Nat)) (h1 : RawsAt W W.heap.size v1 r1) (h2 : RawsAt W W.heap.size v2 r2) (h3 : RawsAt W W.heap.size v3 r3) (hl1 : r1.length ≤ 100000000000000) (hl2 : r2.length ≤ 100000000000000) (hl3 : r3.length ≤ 100000000000000) (hT : Tabs W) :
    Calls Tryz.prog 5 #[v1, v2, v3] W fun e w' => e = .returned (.bool true) ∧ Below W.heap.size W w' := by
  have C1 := hide (kbatch_more W.heap.size v1 r1 W h1 (Nat.le_refl _) hl1)
  have HR2 := hide h2
  have HR3 := hide h3
  have HT := hide hT
  have htl := hT.lt
  obtain ⟨ra, rc, rfl, -⟩ := id h1
  obtain ⟨qa, qc, rfl, -⟩ := id h2
  obtain ⟨pa, pc, rfl, -⟩ := id h3
  clear h1 h2 h3 hT
  go_enter Tryz.func5, Tryz.ntmps5
  go_wp2_with fail
  refine C1.out.mono ?_
  rintro e w1 ⟨va, a, rfl, hA, oa, la, na, ka, hb1⟩
  have C := hide (kbatch_more W.heap.size (.slice qa r2.length qc) r2 w1 (HR2.out.below hb1 (Nat.le_refl _)) hb1.size hl2)
  have HB1 := hide hb1
  have HA1 := hide hA
  obtain ⟨aa, ac, rfl, -⟩ := id hA
  clear hb1 C1 HR2 hA
  go_wp2_with fail
  refine C.out.mono ?_
  rintro e w2 ⟨vb, b, rfl, hB, ob, lb, nb, kb, hb2⟩
  have HB2 := hide (HB1.out.trans (hb2.mono HB1.out.size))
  have HA2 := hide (HA1.out.on hb2)
  have HBt2 := hide hB
  obtain ⟨ba, bc, rfl, -⟩ := id hB
  clear C hb2 HB1 HA1 hB
  have C := hide (kbatch_more W.heap.size (.slice pa r3.length pc) r3 w2 (HR3.out.below HB2.out (Nat.le_refl _)) HB2.out.size hl3)
  clear HR3
  go_wp2_with fail
  refine C.out.mono ?_
  rintro e w3 ⟨vc, c, rfl, hC, oc, lc, nc, kc, hb3⟩
  have HB3 := hide (HB2.out.trans (hb3.mono HB2.out.size))
  have HA3 := hide (HA2.out.on hb3)
  have HBt3 := hide (HBt2.out.on hb3)
  have HC3 := hide hC
  have HO : Hid ((BatchOk a ∧ BatchOk b ∧ BatchOk c) ∧ (LimitsOk a ∧ LimitsOk b ∧ LimitsOk c) ∧ (InRange a ∧ InRange b ∧ InRange c) ∧ KB a 10 ∧ KB b 10 ∧ KB c 10) := ⟨⟨oa, ob, oc⟩, ⟨la, lb, lc⟩, ⟨na, nb, nc⟩, ka, kb, kc⟩
  obtain ⟨ca, cc, rfl, -⟩ := id hC
  clear C hb3 HB2 HA2 HBt2 hC oa ob oc la lb lc na nb nc ka kb kc
  have C := hide (kj_any w3 _ _ a b 10 10 HA3.out HBt3.out HO.out.1.1 HO.out.1.2.1 HO.out.2.2.2.1 HO.out.2.2.2.2.1 (by decide))
  go_wp2_with fail
  refine C.out.mono ?_
  rintro e w4 ⟨ab', ab, jab, rfl, hAb, kab, hb4⟩
  have HB4 := hide (HB3.out.trans (hb4.mono HB3.out.size))
  have HA4 := hide (HA3.out.on hb4)
  have HBt4 := hide (HBt3.out.on hb4)
  have HC4 := hide (HC3.out.on hb4)
  have HAb4 := hide hAb
  have HJab : Hid (IsJoin [a, b] ab ∧ KB ab 20) := ⟨jab, kab⟩
  obtain ⟨aba, abc, rfl, -⟩ := id hAb
  clear C hb4 HB3 HA3 HBt3 HC3 hAb jab kab
  have C := hide (kj_any w4 _ _ b a 10 10 HBt4.out HA4.out HO.out.1.2.1 HO.out.1.1 HO.out.2.2.2.2.1 HO.out.2.2.2.1 (by decide))
  go_wp2_with fail
  refine C.out.mono ?_
  rintro e w5 ⟨ba', bav, jba, rfl, hBa, kba, hb5⟩
  obtain rfl : bav = ab := IsJoin.unique (jba.perm (fun x => by simp [or_comm])) HJab.out.1
  have HB5 := hide (HB4.out.trans (hb5.mono HB4.out.size))
  have HA5 := hide (HA4.out.on hb5)
  have HBt5 := hide (HBt4.out.on hb5)
  have HC5 := hide (HC4.out.on hb5)
  have HAb5 := hide (HAb4.out.on hb5)
  have HBa5 := hide hBa
  obtain ⟨baa, bac, rfl, -⟩ := id hBa
  clear C hb5 HB4 HA4 HBt4 HC4 HAb4 hBa jba kba
  have C := hide (kj_any w5 _ _ b c 10 10 HBt5.out HC5.out HO.out.1.2.1 HO.out.1.2.2 HO.out.2.2.2.2.1 HO.out.2.2.2.2.2 (by decide))
  go_wp2_with fail
  refine C.out.mono ?_
  rintro e w6 ⟨bc', bcv, jbc, rfl, hBc, kbc, hb6⟩
  have HB6 := hide (HB5.out.trans (hb6.mono HB5.out.size))
  have HA6 := hide (HA5.out.on hb6)
  have HBt6 := hide (HBt5.out.on hb6)
  have HC6 := hide (HC5.out.on hb6)
  have HAb6 := hide (HAb5.out.on hb6)
  have HBa6 := hide (HBa5.out.on hb6)
  have HBc6 := hide hBc
  have HJbc : Hid (IsJoin [b, c] bcv ∧ KB bcv 20) := ⟨jbc, kbc⟩
  obtain ⟨bca, bcc, rfl, -⟩ := id hBc
  clear C hb6 HB5 HA5 HBt5 HC5 HAb5 HBa5 hBc jbc kbc
  have C := hide (kj_any w6 _ _ bav c 20 10 HAb6.out HC6.out HJab.out.1.ok HO.out.1.2.2 HJab.out.2 HO.out.2.2.2.2.2 (by decide))
  go_wp2_with fail
  refine C.out.mono ?_
  rintro e w7 ⟨l', l, jl, rfl, hL, kl, hb7⟩
  have habc : IsJoin [a, b, c] l := HJab.out.1.group jl (two_all.2 ⟨HO.out.1.1, HO.out.1.2.1⟩)
  have HB7 := hide (HB6.out.trans (hb7.mono HB6.out.size))
  have HA7 := hide (HA6.out.on hb7)
  have HBt7 := hide (HBt6.out.on hb7)
  have HC7 := hide (HC6.out.on hb7)
  have HAb7 := hide (HAb6.out.on hb7)
  have HBa7 := hide (HBa6.out.on hb7)
  have HBc7 := hide (HBc6.out.on hb7)
  have HL7 := hide hL
  have HJl : Hid (IsJoin [a, b, c] l ∧ KB l 30) := ⟨habc, kl⟩
  obtain ⟨la', lc', rfl, -⟩ := id hL
  clear C hb7 HB6 HA6 HBt6 HC6 HAb6 HBa6 HBc6 hL jl kl habc
  have C := hide (kj_any w7 _ _ a bcv 10 20 HA7.out HBc7.out HO.out.1.1 HJbc.out.1.ok HO.out.2.2.2.1 HJbc.out.2 (by decide))
  go_wp2_with fail
  refine C.out.mono ?_
  rintro e w8 ⟨m', m, jm, rfl, hM, km, hb8⟩
  obtain rfl : m = l := by
    have h1 : IsJoin (bcv :: [a]) m := jm.perm fun x => by simp [or_comm]
    have h2 : IsJoin ([b, c] ++ [a]) m := HJbc.out.1.group h1 (two_all.2 ⟨HO.out.1.2.1, HO.out.1.2.2⟩)
    exact (h2.perm (css := [a, b, c]) fun x => by simp only [List.mem_append, List.mem_cons, List.not_mem_nil, or_false]; constructor <;> (first | (rintro ((h | h) | h) <;> simp [h]) | (rintro (h | h | h) <;> simp [h]))).unique HJl.out.1
  have HB8 := hide (HB7.out.trans (hb8.mono HB7.out.size))
  have HA8 := hide (HA7.out.on hb8)
  have HBt8 := hide (HBt7.out.on hb8)
  have HC8 := hide (HC7.out.on hb8)
  have HAb8 := hide (HAb7.out.on hb8)
  have HBa8 := hide (HBa7.out.on hb8)
  have HL8 := hide (HL7.out.on hb8)
  have HM8 := hide hM
  obtain ⟨ma', mc', rfl, -⟩ := id hM
  clear C hb8 HB7 HA7 HBt7 HC7 HAb7 HBa7 HBc7 HL7 hM jm km HJbc
  have C := hide (kj_any w8 _ _ m a 30 10 HL8.out HA8.out HJl.out.1.ok HO.out.1.1 HJl.out.2 HO.out.2.2.2.1 (by decide))
  go_wp2_with fail
  refine C.out.mono ?_
  rintro e w9 ⟨n', n, jn, rfl, hN, kn, hb9⟩
  obtain rfl : n = m := by
    have h2 : IsJoin ([a, b, c] ++ [a]) n := HJl.out.1.group jn (fun bs hbs => by
      rcases List.mem_cons.1 hbs with rfl | h
      · exact HO.out.1.1
      · rcases List.mem_cons.1 h with rfl | h
        · exact HO.out.1.2.1
        · rw [List.mem_singleton.1 h]; exact HO.out.1.2.2)
    exact (h2.perm (css := [a, b, c]) fun x => by simp only [List.mem_append, List.mem_cons, List.not_mem_nil, or_false]; constructor <;> (first | (rintro ((h | h | h) | h) <;> simp [h]) | (rintro (h | h | h) <;> simp [h]))).unique HJl.out.1
  have HB9 := hide (HB8.out.trans (hb9.mono HB8.out.size))
  have HA9 := hide (HA8.out.on hb9)
  have HBt9 := hide (HBt8.out.on hb9)
  have HC9 := hide (HC8.out.on hb9)
  have HAb9 := hide (HAb8.out.on hb9)
  have HBa9 := hide (HBa8.out.on hb9)
  have HL9 := hide (HL8.out.on hb9)
  have HM9 := hide (HM8.out.on hb9)
  have HN9 := hide hN
  obtain ⟨na', nc', rfl, -⟩ := id hN
  have HLl : Hid (LimitsOk n) := HJl.out.2.limits (by decide) HJl.out.1.ok
  clear C hb9 HB8 HA8 HBt8 HC8 HAb8 HBa8 HL8 HM8 hN jn kn
  have C := hide (packed_fr w9 _ n HL9.out (HT.out.below HB9.out htl) HJl.out.1.ok HLl.out)
  go_wp2_with fail
  refine C.out.mono ?_
  rintro e w10 ⟨rfl, hb10⟩
  have HB10 := hide (HB9.out.trans (hb10.mono HB9.out.size))
  have HA10 := hide (HA9.out.on hb10)
  have HBt10 := hide (HBt9.out.on hb10)
  have HC10 := hide (HC9.out.on hb10)
  have HAb10 := hide (HAb9.out.on hb10)
  have HBa10 := hide (HBa9.out.on hb10)
  have HL10 := hide (HL9.out.on hb10)
  have HM10 := hide (HM9.out.on hb10)
  have HN10 := hide (HN9.out.on hb10)
  clear C hb10 HB9 HA9 HBt9 HC9 HAb9 HBa9 HL9 HM9 HN9
  have C := hide (packed_fr w10 _ a HA10.out (HT.out.below HB10.out htl) HO.out.1.1 HO.out.2.1.1)
  go_wp2_with fail
  refine C.out.mono ?_
  rintro e w11 ⟨rfl, hb11⟩
  have HB11 := hide (HB10.out.trans (hb11.mono HB10.out.size))
  have HBt11 := hide (HBt10.out.on hb11)
  have HC11 := hide (HC10.out.on hb11)
  have HAb11 := hide (HAb10.out.on hb11)
  have HBa11 := hide (HBa10.out.on hb11)
  have HL11 := hide (HL10.out.on hb11)
  have HM11 := hide (HM10.out.on hb11)
  have HN11 := hide (HN10.out.on hb11)
  clear C hb11 HB10 HA10 HBt10 HC10 HAb10 HBa10 HL10 HM10 HN10
  have C := hide (packed_fr w11 _ b HBt11.out (HT.out.below HB11.out htl) HO.out.1.2.1 HO.out.2.1.2.1)
  go_wp2_with fail
  refine C.out.mono ?_
  rintro e w12 ⟨rfl, hb12⟩
  have HB12 := hide (HB11.out.trans (hb12.mono HB11.out.size))
  have HC12 := hide (HC11.out.on hb12)
  have HAb12 := hide (HAb11.out.on hb12)
  have HBa12 := hide (HBa11.out.on hb12)
  have HL12 := hide (HL11.out.on hb12)
  have HM12 := hide (HM11.out.on hb12)
  have HN12 := hide (HN11.out.on hb12)
  clear C hb12 HB11 HBt11 HC11 HAb11 HBa11 HL11 HM11 HN11
  have C := hide (packed_fr w12 _ c HC12.out (HT.out.below HB12.out htl) HO.out.1.2.2 HO.out.2.1.2.2)
  go_wp2_with fail
  refine C.out.mono ?_
  rintro e w13 ⟨rfl, hb13⟩
  have HB13 := hide (HB12.out.trans (hb13.mono HB12.out.size))
  have HAb13 := hide (HAb12.out.on hb13)
  have HBa13 := hide (HBa12.out.on hb13)
  have HL13 := hide (HL12.out.on hb13)
  have HM13 := hide (HM12.out.on hb13)
  have HN13 := hide (HN12.out.on hb13)
  clear C hb13 HB12 HC12 HAb12 HBa12 HL12 HM12 HN12
  have HAll : Hid (∀ bs, bs = a ∨ bs = b ∨ bs = c → BatchOk bs ∧ LimitsOk bs ∧ InRange bs) := fun bs h => by
    rcases h with rfl | rfl | rfl
    · exact ⟨HO.out.1.1, HO.out.2.1.1, HO.out.2.2.1.1⟩
    · exact ⟨HO.out.1.2.1, HO.out.2.1.2.1, HO.out.2.2.1.2.1⟩
    · exact ⟨HO.out.1.2.2, HO.out.2.1.2.2, HO.out.2.2.1.2.2⟩
  have C := hide (merged_frames W w13 [a, b, c] n HB13.out HT.out (fun bs h => HAll.out bs (by simpa using h)) (by simp) HJl.out.1 HLl.out)
  go_wp2_with fail
  refine C.out.mono ?_
  rintro e w14 ⟨rfl, hb14⟩
  have HB14 := hide (HB13.out.trans (hb14.mono HB13.out.size))
  have HAb14 := hide (HAb13.out.on hb14)
  have HBa14 := hide (HBa13.out.on hb14)
  have HL14 := hide (HL13.out.on hb14)
  have HM14 := hide (HM13.out.on hb14)
  have HN14 := hide (HN13.out.on hb14)
  clear C hb14 HB13 HAb13 HBa13 HL13 HM13 HN13
  have C := hide (merged_frames W w14 [c, a, b, a, c] n HB14.out HT.out (fun bs h => HAll.out bs (by simp only [List.mem_cons, List.not_mem_nil, or_false] at h; rcases h with h | h | h | h | h <;> simp [h])) (by simp) (HJl.out.1.perm fun x => by simp only [List.mem_cons, List.not_mem_nil, or_false]; constructor <;> (first | (rintro (h | h | h | h | h) <;> simp [h]) | (rintro (h | h | h) <;> simp [h]))) HLl.out)
  go_wp2_with fail
  refine C.out.mono ?_
  rintro e w15 ⟨rfl, hb15⟩
  have HB15 := hide (HB14.out.trans (hb15.mono HB14.out.size))
  have HAb15 := hide (HAb14.out.on hb15)
  have HBa15 := hide (HBa14.out.on hb15)
  have HL15 := hide (HL14.out.on hb15)
  have HM15 := hide (HM14.out.on hb15)
  have HN15 := hide (HN14.out.on hb15)
  clear C hb15 HB14 HAb14 HBa14 HL14 HM14 HN14 HAll
  have C := hide (same_any _ _ bav w15 HAb15.out HBa15.out (small_of (HJab.out.2.limits (by decide) HJab.out.1.ok)))
  go_wp2_with fail
  refine C.out.mono ?_
  rintro e w16 ⟨rfl, hb16⟩
  have HB16 := hide (HB15.out.trans (hb16.mono HB15.out.size))
  have HL16 := hide (HL15.out.on hb16)
  have HM16 := hide (HM15.out.on hb16)
  have HN16 := hide (HN15.out.on hb16)
  clear C hb16 HB15 HAb15 HBa15 HL15 HM15 HN15
  have C := hide (same_any _ _ n w16 HL16.out HM16.out (small_of HLl.out))
  go_wp2_with fail
  refine C.out.mono ?_
  rintro e w17 ⟨rfl, hb17⟩
  have HB17 := hide (HB16.out.trans (hb17.mono HB16.out.size))
  have HL17 := hide (HL16.out.on hb17)
  have HN17 := hide (HN16.out.on hb17)
  clear C hb17 HB16 HL16 HM16 HN16
  have C := hide (same_any _ _ n w17 HN17.out HL17.out (small_of HLl.out))
  go_wp2_with fail
  refine C.out.mono ?_
  rintro e w18 ⟨rfl, hb18⟩
  have HB18 := hide (HB17.out.trans (hb18.mono HB17.out.size))
  clear C hb18 HB17 HL17 HN17
  go_wp2
  go_ret
  exact ⟨by rfl, HB18.out⟩
end Go.Proofs.YtamcclcbmenjdaaGreatDoor

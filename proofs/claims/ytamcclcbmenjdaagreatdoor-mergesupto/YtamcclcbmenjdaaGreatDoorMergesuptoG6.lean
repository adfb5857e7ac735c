/- 'choirlaw.Merges', for any list of texts of bulk at most 1048576: Merge answers the document's frame or error; what is handed in stays. The second form's statement and its card: its only condition is the row's own bound on the argument's bulk. -/
import Derived.Test.YtamcclcbmenjdaaGreatDoorMergesuptoG5
import Derived.Shelf.Slices.In.SortNone
/- appendSeries. -/
namespace Go.Proofs.YtamcclcbmenjdaaGreatDoor
open Go.RowKit Go.Lib

/-- What has been appended so far to a slice of the caller's own. -/
structure App (base : Nat) (w : World) (v : Value) (W : World) (o : Value) (zs : List UInt8) : Prop where
  bytes : Bytes base W o zs
  grown : w.grownBy W v.ownBlock
  heir : Heir w v o

theorem App.step {base : Nat} {w W W' : World} {v o o' : Value} {zs zs' : List UInt8} (h : App base w v W o zs) (hb : Bytes base W' o' zs') (hg : W.grownBy W' o.ownBlock) (hh : Heir W o o') : App base w v W' o' zs' :=
  ⟨hb, grownBy_trans h.grown hg h.heir, h.heir.trans hh h.grown.size⟩
/-- Where new blocks are made, and no more. -/
theorem App.below {base : Nat} {w W W' : World} {v o : Value} {zs : List UInt8} (h : App base w v W o zs) (hb : Below W.heap.size W W') : App base w v W' o zs :=
  h.step (h.bytes.kept fun k hv => hb.block k (World.ownsRow.lt h.bytes k hv).2) (grownBy_of_below _ hb) (Heir.refl _ _)
theorem App.drewN {base : Nat} {w W : World} {v o : Value} {zs : List UInt8} (h : App base w v W o zs) (q : Nat) : App base w v (W.drewN q) o zs := h.below (below_drewN (Below.refl _ _) q)
theorem App.alloc {base : Nat} {w W : World} {v o : Value} {zs : List UInt8} (h : App base w v W o zs) (ob : Obj) : App base w v (W.alloc ob) o zs := h.below ((Below.refl _ _).alloc (Nat.le_refl _) ob)
theorem App.block {base : Nat} {w W : World} {v o : Value} {zs : List UInt8} (h : App base w v W o zs) {k : Nat} (hk : k < w.heap.size) (ho : some k ≠ v.ownBlock) : W.heap[k]? = w.heap[k]? := h.grown.block k hk ho
theorem App.cell {base : Nat} {w W : World} {v o : Value} {zs : List UInt8} (h : App base w v W o zs) {k : Nat} (hk : k < w.heap.size) (ho : some k ≠ v.ownBlock) (j : Nat) : W.cell? ⟨k, j, none⟩ = w.cell? ⟨k, j, none⟩ :=
  World.cell?_of_block (a := ⟨k, j, none⟩) (h.block hk ho)
theorem App.ne {base : Nat} {w W : World} {v o : Value} {zs : List UInt8} (h : App base w v W o zs) {k : Nat} (hk : k < w.heap.size) (ho : some k ≠ v.ownBlock) : some k ≠ o.ownBlock := heir_ne h.heir ho hk

theorem App.trans {base : Nat} {w W W' : World} {v o o' : Value} {zs zs' : List UInt8} (h : App base w v W o zs) (k : App base W o W' o' zs') : App base w v W' o' zs' := h.step k.bytes k.grown k.heir
theorem App.of_alloc {base : Nat} {w W : World} {v o : Value} {ob : Obj} {zs : List UInt8} (h : App base (w.alloc ob) v W o zs) : App base w v W o zs := ⟨h.bytes, grownBy_alloc_then h.grown, h.heir.of_alloc⟩
theorem App.self {base : Nat} {w W : World} {v o : Value} {zs : List UInt8} (h : App base w v W o zs) : App base W o W o zs := ⟨h.bytes, grownBy_refl _ _, Heir.refl _ _⟩
/-- One varint more. -/
theorem App.varint {base : Nat} {w W : World} {v o : Value} {zs : List UInt8} (N : Int) (n : Nat) (h : App base w v W o zs) (hN : N = n) (hn : n ≤ 1000000000) (hz : zs.length ≤ 1000000) (hb : base ≤ w.heap.size) :
    Calls Tryz.prog 111 #[o, .int .i64 N] W fun e w' => ∃ o', e = .returned o' ∧ App base w v w' o' (zs ++ Pl.varint n) := by
  subst hN
  refine (appendVarint_any base o zs n W h.bytes (by omega) (by omega) (Nat.le_trans hb h.grown.size)).mono ?_
  rintro e w' ⟨o', rfl, h1, h2, h3⟩
  exact ⟨o', rfl, h.step h1 h2 h3⟩

def labelsBytes (texts : List ByteArray) (l : List (ByteArray × ByteArray)) : List UInt8 := l.flatMap fun x => Pl.varint (placeOf texts x.1) ++ Pl.varint (placeOf texts x.2)
def chunkBytes (l : List (Int × Nat)) : List UInt8 := Pl.pack (chunkBits l)
def seriesBytes (texts : List ByteArray) (l : List (ByteArray × ByteArray)) (s : List (Int × Nat)) : List UInt8 :=
  Pl.varint l.length ++ labelsBytes texts l ++ Pl.varint s.length ++ Pl.varint (chunkBytes s).length ++ chunkBytes s

theorem placeOf_le (l : List ByteArray) (x : ByteArray) : placeOf l x ≤ l.length := by
  unfold placeOf
  have : ∀ (f : Nat) (less : Nat → Bool) (lo hi : Nat), lo ≤ hi → Lib.bsGo less f lo hi ≤ hi := by
    intro f less
    induction f with
    | zero => intro lo hi h; exact h
    | succ f ih =>
      intro lo hi h
      unfold Lib.bsGo
      split
      · split
        · exact ih _ _ (by omega)
        · exact Nat.le_trans (ih _ _ (by omega)) (by omega)
      · exact h
  exact this _ _ _ _ (Nat.zero_le _)
theorem labelsBytes_take (texts : List ByteArray) (l : List (ByteArray × ByteArray)) (k : Nat) (x : ByteArray × ByteArray) (h : l[k]? = some x) :
    labelsBytes texts (l.take (k + 1)) = labelsBytes texts (l.take k) ++ Pl.varint (placeOf texts x.1) ++ Pl.varint (placeOf texts x.2) := by
  obtain ⟨hk, hx⟩ := List.getElem?_eq_some_iff.1 h
  rw [List.take_succ_eq_append_getElem hk, hx, labelsBytes, List.flatMap_append]
  simp [labelsBytes]
theorem labelsBytes_len (texts : List ByteArray) (l : List (ByteArray × ByteArray)) : (labelsBytes texts l).length ≤ 20 * l.length := by
  induction l with
  | nil => simp [labelsBytes]
  | cons x r ih =>
    have h1 := Pl.varint_length (placeOf texts x.1)
    have h2 := Pl.varint_length (placeOf texts x.2)
    simp only [labelsBytes, List.flatMap_cons, List.length_append, List.length_cons] at ih ⊢
    omega

theorem oneBs (l : List UInt8) : ∀ u ∈ Pl.Bs l, u.oneCell' = true := by
  intro u hu
  obtain ⟨b, _, rfl⟩ := List.mem_map.1 hu
  rfl
theorem bytes_app {base n : Nat} {w : World} {v : Value} {a b : List UInt8} (h : w.ownsRow base 5 1 v n (Pl.Bs a ++ Pl.Bs b)) : Bytes base w v (a ++ b) := by
  have hn : n = (a ++ b).length := by have := h.1; rw [← Pl.Bs_append, Pl.Bs_length] at this; omega
  unfold Bytes
  rw [Pl.Bs_append, ← hn]; exact h
theorem nextZ_le (a z x : Nat) (hz : z ≤ 64) : nextZ a z x ≤ 64 := by
  unfold nextZ; split
  · unfold newSize; omega
  · exact hz
theorem arith150 (n : Nat) : 150 + 150 * n ≤ 150 * (n + 1) := by omega
theorem timeBits_len (t s x : Nat) : (timeBits t s x).length ≤ 69 := by
  unfold timeBits
  generalize sub64 (sub64 x t) s = e
  have h1 := markOf_app [] (stepWay e) 4
  have h2 := stepWay_le e
  have h3 := stepWidth_le (stepWay e)
  generalize add64 e (stepShift (stepWay e)) = y
  generalize stepWay e = k at *
  rw [List.length_append, Pl.bitsOf_length]
  rw [List.nil_append, List.length_nil] at h1
  omega
theorem piece_len (t s y a z x : Nat) (hz : z ≤ 64) : (timeBits t s y ++ bitBits a z x).length ≤ 150 := by
  have h2 := timeBits_len t s y
  generalize timeBits t s y = l at *
  have h1 := bitBits_app l a z x hz
  omega
theorem goBits_len (r : List (Int × Nat)) : ∀ (t s b a z : Nat), z ≤ 64 → (goBits t s b a z r).length ≤ 150 * r.length := by
  induction r with
  | nil => intros; simp [goBits]
  | cons x r ih =>
    intro t s b a z hz
    rw [goBits, List.length_append, List.length_cons]
    exact Nat.le_trans (Nat.add_le_add (piece_len t s (u64 x.1) a z (x.2 ^^^ b) hz) (ih _ _ _ _ _ (nextZ_le _ _ _ hz))) (arith150 r.length)
theorem chunkBytes_len (l : List (Int × Nat)) (h : l.length ≤ 300) : (Pl.pack (chunkBits l)).length ≤ 6000 := by
  rw [Pl.pack_length]
  cases l with
  | nil => simp [chunkBits]
  | cons x r =>
    have := goBits_len r (u64 x.1) 0 x.2 0 0 (by omega)
    rw [chunkBits, List.length_append, List.length_append, Pl.bitsOf_length, Pl.bitsOf_length]
    simp at h
    omega
theorem chunkBytes_pos (l : List (Int × Nat)) (h : 0 < l.length) : 0 < (Pl.pack (chunkBits l)).length := by
  rw [Pl.pack_length]
  cases l with
  | nil => simp at h
  | cons x r => rw [chunkBits, List.length_append, List.length_append, Pl.bitsOf_length, Pl.bitsOf_length]; omega

set_option maxRecDepth 100000 in
set_option maxHeartbeats 400000 in
theorem appendSeries_any (base B tb nn : Nat) (v lv sv : Value) (xs : List UInt8) (texts : List ByteArray) (seen : List (ByteArray × ByteArray)) (labels : List (ByteArray × ByteArray)) (samples : List (Int × Nat)) (w : World)
    (hv : Bytes base w v xs) (hxs : xs.length ≤ 100000) (hbase : base ≤ w.heap.size) (hBb : B ≤ base) (h3 : 3 ≤ base) (hT : Tabs w)
    (ht : NumMap w tb nn texts seen) (hseen : ∀ x ∈ labels, x ∈ seen ∧ ShortL x) (htl : texts.length ≤ 1000) (htb : tb < w.heap.size) (hto : some tb ≠ v.ownBlock)
    (hL : LabelsAt w B lv labels) (hll : labels.length ≤ 100) (hS : SamplesAt w B sv samples) (hs0 : samples ≠ []) (hsl : samples.length ≤ 300) :
    Calls Tryz.prog 113 #[v, .map (some tb), .agg #[lv, sv]] w fun e w' => ∃ v', e = .returned v' ∧ App base w v w' v' (xs ++ seriesBytes texts labels samples) := by
  have hown : ∀ k, v.ownBlock = some k → base ≤ k ∧ k < w.heap.size := fun k e => World.ownsRow.lt hv k e
  have hbox : some w.heap.size ≠ v.ownBlock := fun e => absurd (hown _ e.symm).2 (Nat.lt_irrefl _)
  obtain ⟨la, lcap, rfl, hlc, hL2⟩ := hL
  have hSv := hS
  obtain ⟨sa, scap, rfl, hsc, _⟩ := hSv
  have hcL : ∀ k y, labels[k]? = some y → ∃ b o, la = some ⟨b, o, none⟩ ∧ b < B ∧ w.cell? ⟨b, o + k * 2, none⟩ = some (.string y.1) ∧ w.cell? ⟨b, o + k * 2 + 1, none⟩ = some (.string y.2) := by
    intro k y hy
    rcases hL2 with h | ⟨b, o, ha, hb, hc⟩
    · rw [h] at hy; cases hy
    · exact ⟨b, o, ha, hb, (hc k y hy).1, (hc k y hy).2⟩
  have hold : ∀ k, k < B → some k ≠ v.ownBlock := fun k hk e => by have := (hown k e.symm).1; omega
  have HC := hide hcL
  have HO := hide hold
  have HS := hide hS
  have HTx := hide ht
  have HSe := hide hseen
  have HTo := hide hto
  have HTa := hide hT
  have HOw := hide hown
  have HBx := hide hbox
  obtain ⟨w0, hw0⟩ : ∃ w0, w0 = w.alloc (.cells #[.slice la labels.length lcap, .slice sa samples.length scap] 38) := ⟨_, rfl⟩
  have A0 : App base w0 v w0 v xs := ⟨by rw [hw0]; exact hv.kept fun k e => heap_alloc_old w _ (hown k e).2, grownBy_refl _ _, Heir.refl _ _⟩
  have hz0 : w0.heap.size = w.heap.size + 1 := by rw [hw0]; simp
  have hk0 : ∀ k, k < w.heap.size → w0.heap[k]? = w.heap[k]? := fun k hk => by rw [hw0]; exact heap_alloc_old w _ hk
  have hb0 : w0.cell? ⟨w.heap.size, 0, none⟩ = some (.slice la labels.length lcap) := by rw [hw0]; exact World.cell?_alloc_new _ _ _ 0
  have hb1 : w0.cell? ⟨w.heap.size, 1, none⟩ = some (.slice sa samples.length scap) := by rw [hw0]; exact World.cell?_alloc_new _ _ _ 1
  have HA0 := hide A0
  have HK0 := hide hk0
  have HW0 := hide hw0
  have HZ0 := hide hz0
  clear hcL hold hS ht hseen hto hT hown hbox hL2 hv A0 hk0 hz0
  go_enter Tryz.func113, Tryz.ntmps113
  go_wp2_with fail
  rw [← HW0.out]
  have hbase0 : base ≤ w0.heap.size := by rw [HZ0.out]; omega
  refine (HA0.out.varint _ labels.length rfl (by omega) (by omega) hbase0).mono ?_
  rintro e w1 ⟨o1, rfl, A1⟩
  have g0 := (A1.cell (k := w.heap.size) (by rw [HZ0.out]; omega) HBx.out 0).trans hb0
  have HA1 := hide A1
  clear A1 hw0
  go_wp2
  go_loopw [0, 8, 9, 19] (fun o _ _ i wr => ∃ k : Nat, k ≤ labels.length ∧ i = .int .i64 k ∧ App base w0 v wr o (xs ++ Pl.varint labels.length ++ labelsBytes texts (labels.take k))) (fun _ _ _ i _ => labels.length - (intOf i).toNat)
  case atStart => exact ⟨0, Nat.zero_le _, rfl, by simpa [labelsBytes] using HA1.out⟩
  case round =>
    obtain ⟨k, hk, rfl, hA⟩ := hrel
    have HA := hide hA
    have hlz : (xs ++ Pl.varint labels.length ++ labelsBytes texts (labels.take k)).length ≤ 200000 := by
      have h1 := Pl.varint_length labels.length
      have h2 := labelsBytes_len texts (labels.take k)
      have h3 : (labels.take k).length ≤ k := List.length_take_le _ _
      rw [List.length_append, List.length_append]; omega
    have HLZ := hide hlz
    clear hA HA1 g0 hlz
    by_cases hlt : k < labels.length
    · obtain ⟨⟨ky, vy⟩, hy⟩ : ∃ y, labels[k]? = some y := ⟨_, List.getElem?_eq_getElem hlt⟩
      obtain ⟨b, o, rfl, hbB, hc1, hc2⟩ := HC.out k (ky, vy) hy
      have hsz := HZ0.out
      have e1 : wr.heap[b]? = w.heap[b]? := (HA.out.block (by omega) (HO.out b hbB)).trans (HK0.out b (by omega))
      have m0 : wr.cell? ⟨b, o + k * 2, none⟩ = some (.string ky) := (World.cell?_of_block (a := ⟨b, o + k * 2, none⟩) e1).trans hc1
      have m1 : wr.cell? ⟨b, o + k * 2 + 1, none⟩ = some (.string vy) := (World.cell?_of_block (a := ⟨b, o + k * 2 + 1, none⟩) e1).trans hc2
      have KT : NumMap wr tb nn texts seen := HTx.out.kept ((HA.out.block (by omega) HTo.out).trans (HK0.out tb htb))
      have hse := HSe.out (ky, vy) (List.mem_of_getElem? hy)
      have hlook := (KT.kept (w' := wr.alloc (.cells #[.string ky, .string vy] 80)) (heap_alloc_old wr _ KT.lt)).look hse.1 hse.2
      simp only at hlook
      have hbw : base ≤ wr.heap.size := by have := HA.out.grown.size; omega
      have hbu : some (wr.heap.size + 1) ≠ u0.ownBlock := fun e => by have := (World.ownsRow.lt HA.out.bytes _ e.symm).2; omega
      obtain ⟨W, hW⟩ : ∃ W, W = (wr.alloc (.cells #[.string ky, .string vy] 80)).alloc (.cells #[.int .i64 (placeOf texts ky), .int .i64 (placeOf texts vy)] 193) := ⟨_, rfl⟩
      have B0 : App base W u0 W u0 (xs ++ Pl.varint labels.length ++ labelsBytes texts (labels.take k)) := by rw [hW]; exact ((HA.out.self.alloc _).alloc _).self
      have hWs : W.heap.size = wr.heap.size + 2 := by rw [hW]; simp
      have n1 : W.cell? ⟨wr.heap.size + 1, 1, none⟩ = some (.int .i64 (placeOf texts vy)) := by
        rw [hW]; simp
      have HE := hide (labelsBytes_take texts labels k (ky, vy) hy)
      have hp1 := placeOf_le texts ky
      have hp2 := placeOf_le texts vy
      have HB0 := hide B0
      have HW := hide hW
      have HWs := hide hWs
      have HBU := hide hbu
      have HN1 := hide n1
      clear KT B0 hWs hbu n1 e1 hc1 hc2 hy hsz hW hse
      go_wp2_with fail
      rw [← HW.out]
      refine (HB0.out.varint _ (placeOf texts ky) rfl (by omega) (by have := HLZ.out; omega) (by rw [HWs.out]; omega)).mono ?_
      rintro e w3 ⟨o3, rfl, A3⟩
      have k1 := (A3.cell (k := wr.heap.size + 1) (by rw [HWs.out]; omega) HBU.out 1).trans HN1.out
      have HA3 := hide A3
      have hl3 := Pl.varint_length (placeOf texts ky)
      clear A3 m0 m1 hlook
      go_wp2_with fail
      refine (HA3.out.varint _ (placeOf texts vy) rfl (by omega) (by have := HLZ.out; rw [List.length_append]; omega) (by rw [HWs.out]; omega)).mono ?_
      rintro e w5 ⟨o5, rfl, A5⟩
      clear k1
      have A6 : App base w0 v w5 o5 (xs ++ Pl.varint labels.length ++ labelsBytes texts (labels.take (k + 1))) := by
        rw [HW.out] at A5
        have h := HA.out.trans A5.of_alloc.of_alloc
        rw [HE.out]
        simpa only [List.append_assoc] using h
      have HA6 := hide A6
      clear A5 A6 HA3 hl3 hp1 hp2
      go_wp2
      go_roundw
      case rel => exact ⟨k + 1, by omega, by go_num, HA6.out⟩
      case measure => simp [intOf]; omega
    · have hsz := HZ0.out
      have g1 := (HA.out.cell (k := w.heap.size) (by omega) HBx.out 1).trans hb1
      clear hsz
      have KS : SamplesAt wr B (.slice sa samples.length scap) samples := HS.out.kept fun j hj => (HA.out.block (by have := HZ0.out; omega) (HO.out j hj)).trans (HK0.out j (by omega))
      have KT : Tabs wr := HTa.out.kept ((HA.out.block (by have := HZ0.out; omega) (fun e => by have := (HOw.out _ e.symm).1; omega)).trans (HK0.out _ (by omega))) ((HA.out.block (by have := HZ0.out; omega) (fun e => by have := (HOw.out _ e.symm).1; omega)).trans (HK0.out _ (by omega)))
      have hwr : B ≤ wr.heap.size := by have := HA.out.grown.size; have := HZ0.out; omega
      obtain ⟨sx, sr, hsx⟩ : ∃ sx sr, samples = sx :: sr := by cases samples with | nil => exact absurd rfl hs0 | cons a r => exact ⟨a, r, rfl⟩
      have CP := hide (packChunk_any B (.slice sa samples.length scap) sx sr wr (by rw [← hsx]; exact KS) hwr KT (by rw [hsx] at hsl; simp at hsl; omega))
      rw [← hsx] at CP
      have hk2 : k = labels.length := by omega
      rw [hk2, List.take_of_length_le (Nat.le_refl _)] at HA HLZ
      have hs1 : 0 < samples.length := by rw [hsx]; simp
      clear KS KT hwr hsx hk2 hs0
      go_wp2_with fail
      refine CP.out.mono ?_
      rintro e w2 ⟨c, rfl, hcb, hb2⟩
      have hch := chunkBytes_pos samples hs1
      have hcl := chunkBytes_len samples hsl
      have HCL := hide hcl
      obtain ⟨g, ccap, hcv, hg⟩ := ownsRow_some hcb hch
      rw [hcv] at hcb ⊢
      have A2 := HA.out.below hb2
      have hog : some g ≠ u0.ownBlock := fun e => by have := (World.ownsRow.lt HA.out.bytes _ e.symm).2; omega
      have hgl : g < w2.heap.size := (World.ownsRow.lt hcb g rfl).2
      have g2 := (A2.cell (k := w.heap.size) (by have := HZ0.out; omega) HBx.out 1).trans hb1
      have HA2 := hide A2
      have HCB := hide hcb
      have HOG := hide hog
      have HGL := hide hgl
      clear hb2 A2 hcb hog hgl hcv CP HA g1
      go_wp2_with fail
      refine (HA2.out.self.varint _ samples.length rfl (by omega) (by have := HLZ.out; omega) (Nat.le_trans hbase0 HA2.out.grown.size)).mono ?_
      rintro e w3 ⟨o3, rfl, A3⟩
      have HA3 := hide A3
      have hl3 := Pl.varint_length samples.length
      clear A3 g2 hch hcl
      go_wp2_with fail
      refine (HA3.out.varint _ (Pl.pack (chunkBits samples)).length rfl (by have := HCL.out; omega) (by have := HLZ.out; rw [List.length_append]; omega) (by have := HA2.out.grown.size; omega)).mono ?_
      rintro e w4 ⟨o4, rfl, A4⟩
      have HA4 := hide A4
      have hb4 : base ≤ w4.heap.size := by have := A4.grown.size; have := HA2.out.grown.size; omega
      have hl4 := Pl.varint_length (Pl.pack (chunkBits samples)).length
      obtain ⟨i0, hi, hz0, hz1, hz2⟩ := info_parts Tryz.infoU8
      have hcell4 : ∀ j u, (Pl.Bs (Pl.pack (chunkBits samples)))[j]? = some u → w4.cell? ((⟨g, 0, none⟩ : Addr).add j) = some u := World.ownsRow.cells (g := g) (HCB.out.kept (w' := w4) fun q e => by
        obtain rfl : g = q := by simpa [Value.ownBlock] using e
        exact A4.block HGL.out HOG.out) rfl
      have HC4 := hide hcell4
      clear A4 HA3 hcell4 hl3
      go_wp2_with (first | (at_builtin; refine wpList_append_heir _ rfl (.tmp 47) (.tmp 48) 83 rfl base 5 i0 (.int .u8 0) 1 1 Tryz.underlying83 hi hz0 hz1 hz2 rfl (by decide) _ _ _ rfl HA4.out.bytes ⟨g, 0, none⟩ (Pl.pack (chunkBits samples)).length ccap (Pl.Bs (Pl.pack (chunkBits samples))) rfl ?c0 ?c1 ?c2 ?c3 ?c4 hb4 ?_))
      case c0 => rw [Pl.Bs_length, Nat.mul_one]
      case c1 => exact HC4.out
      case c2 => exact oneBs _
      case c3 => unfold maxLen; rw [List.length_append, List.length_append]; have h1 := HLZ.out; have h2 := HCL.out; have h3 := Pl.varint_length samples.length; omega
      case c4 => rw [List.length_append, List.length_append]; have h1 := HLZ.out; have h2 := HCL.out; have h3 := Pl.varint_length samples.length; omega
      intro v5 w5 hown5 hgrow5 hheir5
      have A5 := HA2.out.trans (HA4.out.step (W' := w5) (o' := v5) (bytes_app hown5) hgrow5 hheir5)
      have HA5 := hide A5
      clear A5 hown5 hgrow5 hheir5
      go_wp2
      go_ret
      have A6 : App base w v w5 v5 (xs ++ seriesBytes texts labels samples) := by
        have h := HA5.out
        rw [HW0.out] at h
        have h6 := h.of_alloc
        simpa only [seriesBytes, chunkBytes, List.append_assoc] using h6
      exact ⟨_, rfl, A6⟩
end Go.Proofs.YtamcclcbmenjdaaGreatDoor

/- textsOf. -/
namespace Go.Proofs.YtamcclcbmenjdaaGreatDoor
open Go.RowKit Go.Lib

/-- All strings of labels, in their order. -/
def labTexts (l : List Lab) : List ByteArray := l.flatMap fun x => [x.1, x.2]
def allTexts (bs : List Ser) : List ByteArray := bs.flatMap fun s => labTexts s.1
theorem labTexts_take (l : List Lab) (k : Nat) (x : Lab) (h : l[k]? = some x) : labTexts (l.take (k + 1)) = labTexts (l.take k) ++ [x.1, x.2] := by
  obtain ⟨hk, hx⟩ := List.getElem?_eq_some_iff.1 h
  rw [List.take_succ_eq_append_getElem hk, hx, labTexts, List.flatMap_append]
  simp [labTexts]
theorem allTexts_take (l : List Ser) (k : Nat) (x : Ser) (h : l[k]? = some x) : allTexts (l.take (k + 1)) = allTexts (l.take k) ++ labTexts x.1 := by
  obtain ⟨hk, hx⟩ := List.getElem?_eq_some_iff.1 h
  rw [List.take_succ_eq_append_getElem hk, hx, allTexts, List.flatMap_append]
  simp [allTexts]
theorem labTexts_len (l : List Lab) : (labTexts l).length = 2 * l.length := by
  induction l with
  | nil => rfl
  | cons x r ih => simp only [labTexts, List.flatMap_cons, List.length_append, List.length_cons, List.length_nil] at ih ⊢; omega
theorem allTexts_len (bs : List Ser) (h : ∀ s ∈ bs, s.1.length ≤ 100) : (allTexts bs).length ≤ 200 * bs.length := by
  induction bs with
  | nil => simp [allTexts]
  | cons x r ih =>
    have h1 := labTexts_len x.1
    have h2 := h x (by simp)
    have h3 := ih fun s hs => h s (by simp [hs])
    simp only [allTexts, List.flatMap_cons, List.length_append, List.length_cons] at h3 ⊢
    omega

/-- A row of strings of the call's own, as far as it has come. -/
structure Txt (w : World) (W : World) (o : Value) (l : List ByteArray) : Prop where
  own : W.ownsRow w.heap.size 9 1 o l.length (Strs l)
  below : Below w.heap.size w W

theorem Txt.alloc {w W : World} {o : Value} {l : List ByteArray} (h : Txt w W o l) (ob : Obj) : Txt w (W.alloc ob) o l := ⟨h.own.alloc ob, h.below.alloc h.below.size ob⟩
theorem Txt.app {w W W' : World} {o o' : Value} {l : List ByteArray} {n : Nat} {x y : ByteArray} (h : Txt w W o l) (hown : W'.ownsRow w.heap.size 9 1 o' n (Strs l ++ [.string x, .string y])) (hg : W.grownBy W' o.ownBlock) : Txt w W' o' (l ++ [x, y]) := by
  refine ⟨?_, h.below.grown hg h.below.size fun k e => (World.ownsRow.lt h.own k e).1⟩
  have hn : n = (l ++ [x, y]).length := by have := hown.1; simp [Strs] at this; simp; omega
  have e : Strs (l ++ [x, y]) = Strs l ++ [.string x, .string y] := by simp [Strs]
  rw [e, ← hn]; exact hown

set_option maxRecDepth 100000 in
set_option maxHeartbeats 400000 in
theorem textsOf_loops (B : Nat) (v : Value) (bs : List Ser) (w : World) (hb : BatchAt w B v bs) (hB : B ≤ w.heap.size) (hbl : bs.length ≤ 100) (hll : ∀ s ∈ bs, s.1.length ≤ 100)
    (Q : Value → World → Prop) (hQ : ∀ W o, Txt w W o (allTexts bs) → Calls Tryz.prog 135 #[o] W fun e w' => e = .returned (.tuple #[]) ∧ Calls Tryz.prog 136 #[o] w' fun e w'' => ∃ t, e = .returned t ∧ Below w.heap.size w w'' ∧ Q t w'') :
    Calls Tryz.prog 110 #[v] w fun e w' => ∃ t, e = .returned t ∧ Below w.heap.size w w' ∧ Q t w' := by
  obtain ⟨i0, hi, hz0, hz1, hz2⟩ := info_parts Tryz.infoStr
  obtain ⟨a, cap, rfl, hcap, hb2⟩ := hb
  have hcS : ∀ k y, bs[k]? = some y → ∃ b o lv sa sn sc, a = some ⟨b, o, none⟩ ∧ b < B ∧ w.cell? ⟨b, o + k * 2, none⟩ = some lv ∧ w.cell? ⟨b, o + k * 2 + 1, none⟩ = some (.slice sa sn sc) ∧ LabelsAt w B lv y.1 := by
    intro k y hy
    rcases hb2 with h | ⟨b, o, ha, hbb, hc⟩
    · rw [h] at hy; cases hy
    · obtain ⟨lv, sv, h1, h2, h3, sa, sc, rfl, _⟩ := hc k y hy
      exact ⟨b, o, lv, sa, _, sc, ha, hbb, h1, h2, h3⟩
  have HC := hide hcS
  have HQ := hide hQ
  have HL := hide hll
  clear hcS hQ hb2 hll
  go_enter Tryz.func110, Tryz.ntmps110
  go_wp2
  go_loopw [3, 5, 7, 10] (fun o _ _ i wr => ∃ k : Nat, k ≤ bs.length ∧ i = .int .i64 k ∧ Txt w wr o (allTexts (bs.take k))) (fun _ _ _ i _ => bs.length - (intOf i).toNat)
  case atStart => exact ⟨0, Nat.zero_le _, rfl, ⟨World.ownsRow_nil _ _ _ _, Below.refl _ _⟩⟩
  case round =>
    obtain ⟨k, hk, rfl, hX⟩ := hrel
    have HX := hide hX
    clear hX
    by_cases hlt : k < bs.length
    · obtain ⟨y, hy⟩ : ∃ y, bs[k]? = some y := ⟨_, List.getElem?_eq_getElem hlt⟩
      obtain ⟨b, o, lv, sa, sn, sc, rfl, hbB, hc1, hc2, hL⟩ := HC.out k y hy
      have hbw : b < w.heap.size := by omega
      have m0 : wr.cell? ⟨b, o + k * 2, none⟩ = some lv := (HX.out.below.cell (p := ⟨b, o + k * 2, none⟩) hbw).trans hc1
      have m1 : wr.cell? ⟨b, o + k * 2 + 1, none⟩ = some (.slice sa sn sc) := (HX.out.below.cell (p := ⟨b, o + k * 2 + 1, none⟩) hbw).trans hc2
      have hyl := HL.out y (List.mem_of_getElem? hy)
      obtain ⟨la, lcap, rfl, hlc, hL2⟩ := hL
      have HE := hide (allTexts_take bs k y hy)
      have HL2 := hide hL2
      have hal : (allTexts (bs.take k)).length ≤ 200 * k := by
        have h1 := allTexts_len (bs.take k) (fun s hs => HL.out s (List.mem_of_mem_take hs))
        have h2 : (bs.take k).length ≤ k := List.length_take_le _ _
        omega
      have hws : w.heap.size ≤ wr.heap.size := HX.out.below.size
      clear hc1 hc2 hy hL2
      have HX1 := hide (HX.out.alloc (.cells #[.slice la y.1.length lcap, .slice sa sn sc] 38))
      go_wp2
      go_loopw [3, 7, 17] (fun o _ i wr => ∃ j : Nat, j ≤ y.1.length ∧ i = .int .i64 j ∧ Txt w wr o (allTexts (bs.take k) ++ labTexts (y.1.take j))) (fun _ _ i _ => y.1.length - (intOf i).toNat)
      case atStart => exact ⟨0, Nat.zero_le _, rfl, by simpa [labTexts] using HX1.out⟩
      case round =>
        obtain ⟨j, hj, rfl, hY⟩ := hrel
        have HY := hide hY
        clear hY HX HX1 m0 m1
        by_cases hjl : j < y.1.length
        · obtain ⟨⟨ky, vy⟩, hyj⟩ : ∃ x, y.1[j]? = some x := ⟨_, List.getElem?_eq_getElem hjl⟩
          have hc : ∃ lb lo, la = some ⟨lb, lo, none⟩ ∧ lb < B ∧ w.cell? ⟨lb, lo + j * 2, none⟩ = some (.string ky) ∧ w.cell? ⟨lb, lo + j * 2 + 1, none⟩ = some (.string vy) := by
            rcases HL2.out with h | ⟨lb, lo, ha, hlb, hcc⟩
            · rw [h] at hyj; cases hyj
            · exact ⟨lb, lo, ha, hlb, (hcc j (ky, vy) hyj).1, (hcc j (ky, vy) hyj).2⟩
          obtain ⟨lb, lo, rfl, hlb, hc1, hc2⟩ := hc
          have hlw : lb < w.heap.size := by omega
          have m0 : wr.cell? ⟨lb, lo + j * 2, none⟩ = some (.string ky) := (HY.out.below.cell (p := ⟨lb, lo + j * 2, none⟩) hlw).trans hc1
          have m1 : wr.cell? ⟨lb, lo + j * 2 + 1, none⟩ = some (.string vy) := (HY.out.below.cell (p := ⟨lb, lo + j * 2 + 1, none⟩) hlw).trans hc2
          have HF := hide (labTexts_take y.1 j (ky, vy) hyj)
          have hjl2 := labTexts_len (y.1.take j)
          have hjl3 : (y.1.take j).length ≤ j := List.length_take_le _ _
          have hln : (allTexts (bs.take k) ++ labTexts (y.1.take j)).length ≤ 30000 := by rw [List.length_append]; omega
          have hws2 : w.heap.size ≤ wr.heap.size := HY.out.below.size
          have HN := hide hln
          clear hc1 hc2 hyj hjl2 hjl3 hln hal
          go_wp2_with (first | (at_builtin; refine wpList_append_heir _ rfl (.tmp 21) (.tmp 26) 22 rfl w.heap.size 9 i0 (.string ByteArray.empty) 1 16 Tryz.underlying22 hi hz0 hz1 hz2 rfl (by decide) _ _ _ rfl ((HY.out.own.alloc _).alloc _) ⟨wr.heap.size + 1, 0, none⟩ 2 2 [.string ky, .string vy] rfl rfl ?c1 ?c2 ?c3 ?c4 ?c5 ?_))
          case c2 => exact ⟨rfl, rfl⟩
          case c3 => unfold maxLen; have h := HN.out; rw [List.length_append] at h; omega
          case c4 => have h := HN.out; rw [List.length_append] at h; omega
          case c5 => omega
          intro v5 w5 hown5 hgrow5 _
          have X5 : Txt w w5 v5 (allTexts (bs.take k) ++ labTexts (y.1.take (j + 1))) := by
            have h := ((HY.out.alloc _).alloc _).app (x := ky) (y := vy) hown5 hgrow5
            rw [HF.out, ← List.append_assoc]; exact h
          have HX5 := hide X5
          clear X5 hown5 hgrow5 m0 m1
          go_wp2
          go_roundw
          case rel => exact ⟨j + 1, by omega, by go_num, HX5.out⟩
          case measure => simp [intOf]; omega
        · have hje : j = y.1.length := by omega
          have X6 : Txt w wr u3 (allTexts (bs.take (k + 1))) := by
            have h := HY.out
            rw [hje, List.take_of_length_le (Nat.le_refl _)] at h
            rw [HE.out]; exact h
          have HX6 := hide X6
          clear X6 hje
          go_wp2
          go_roundw
          case rel => exact ⟨k + 1, by omega, by go_num, HX6.out⟩
          case measure => simp [intOf]; omega
    · have hke : k = bs.length := by omega
      have X7 : Txt w wr u3 (allTexts bs) := by
        have h := HX.out
        rw [hke, List.take_of_length_le (Nat.le_refl _)] at h
        exact h
      have HX7 := hide X7
      clear X7 hke HX
      go_wp2_with fail
      refine (HQ.out wr u3 HX7.out).mono ?_
      rintro e w2 ⟨rfl, C2⟩
      have HC2 := hide C2
      clear C2
      go_wp2_with fail
      refine HC2.out.mono ?_
      rintro e w3 ⟨t, rfl, hb3, hq⟩
      have HB3 := hide hb3
      have HQ3 := hide hq
      clear hb3 hq
      go_wp2
      go_ret
      exact ⟨t, rfl, HB3.out, HQ3.out⟩
end Go.Proofs.YtamcclcbmenjdaaGreatDoor

/- slices.Sort and slices.Compact behind textsOf's loops; textsOf. -/
namespace Go.Proofs.YtamcclcbmenjdaaGreatDoor
open Go.RowKit Go.Lib Go.Sort

/-- The different strings of all labels, the lesser first. -/
def sortedTexts (l : List ByteArray) : List ByteArray := (Lib.compact ((l.map fun s => s.data.toList).mergeSort fun x y => decide (x ≤ y))).map fun x => ⟨x.toArray⟩

theorem below_putRow {B g off : Nat} {a w : World} {d : Array (List UInt8)} (h : Below B a w) (hg : B ≤ g) : Below B a (putRow encStr w g off d) := by
  refine h.trans ⟨rfl, rfl, rfl, by simp, fun k hk => ?_⟩
  simp only [putRow, mapBlock, Array.getElem?_modify]
  rw [if_neg (by omega)]
theorem below_ahead {B : Nat} {a w : World} (h : Below B a w) (n : Nat) : Below B a (Sort.ahead w n) := h.trans ⟨rfl, rfl, rfl, Nat.le_refl _, fun _ _ => rfl⟩
theorem below_grow {B : Nat} {a w : World} (h : Below B a w) (hB : B ≤ w.heap.size) (os : Array Obj) : Below B a (grow w os) := h.trans ⟨rfl, rfl, rfl, by simp, fun k hk => heap_grow_old w os (by omega)⟩

theorem str_eta (s : ByteArray) : (⟨s.data.toList.toArray⟩ : ByteArray) = s := by simp
theorem getElem!_list (zs : List (List UInt8)) (j : Nat) (hj : j < zs.length) : zs.toArray[j]! = zs[j] := by simp [hj]

theorem compact_le (zs : List (List UInt8)) : (Lib.compact zs).length ≤ zs.length := by
  unfold Lib.compact compactUpTo
  rw [List.length_map]
  exact Nat.le_trans (List.length_filter_le _ _) (by simp)

theorem sortCompact (w W : World) (o : Value) (l : List ByteArray) (h : Txt w W o l) (hl : l.length ≤ 100000) (h3 : 3 ≤ w.heap.size) :
    Calls Tryz.prog 135 #[o] W fun e w' => e = .returned (.tuple #[]) ∧ Calls Tryz.prog 136 #[o] w' fun e w'' => ∃ t, e = .returned t ∧ Below w.heap.size w w'' ∧
      ∃ tb, TextsAt w'' t tb (sortedTexts l) ∧ tb < w''.heap.size ∧ (tb = 0 ∨ w.heap.size ≤ tb) := by
  by_cases hn : l = []
  · subst hn
    obtain ⟨p, cap, rfl⟩ : ∃ p cap, o = .slice p 0 cap := by
      rcases h.own.2 with ⟨h1, _⟩ | ⟨g, cap, cur, h1, _⟩
      · exact ⟨_, _, h1⟩
      · exact ⟨_, _, h1⟩
    refine (Any.slices_Sort_string_none Tryz.lays190 p cap W).mono ?_
    rintro e w' ⟨rfl, rfl⟩
    refine ⟨rfl, ?_⟩
    refine (Tryz.slices_Compact_string_empty p cap w').mono ?_
    rintro e w'' ⟨rfl, rfl⟩
    exact ⟨_, rfl, h.below, 0, ⟨.inl ⟨by simp [sortedTexts, Lib.compact, compactUpTo], _, _, rfl⟩⟩, by have := h.below.size; omega, .inl rfl⟩
  · have hpos : 0 < l.length := List.length_pos_iff.2 hn
    obtain ⟨g, cap, rfl, hg⟩ := ownsRow_some h.own hpos
    have hgl : g < W.heap.size := (World.ownsRow.lt h.own g rfl).2
    obtain ⟨zs, hzs⟩ : ∃ zs, zs = l.map fun s => s.data.toList := ⟨_, rfl⟩
    have hlen : zs.length = l.length := by rw [hzs]; simp
    have hH : Holds encStr W g 0 zs.toArray := by
      intro j hj
      have hj' : j < l.length := by simpa [hlen] using hj
      refine ⟨?_, World.ownsRow.frozenAt h.own (0 + j)⟩
      rw [World.ownsRow.cellAt h.own (0 + j) (by omega), getElem!_list zs j (by omega)]
      subst hzs
      simp [Strs, hj']
    have hcap : l.length ≤ cap := by
      rcases h.own.2 with ⟨h1, _⟩ | ⟨g', cap', cur, h1, _, _, hc, _⟩
      · cases h1
      · cases h1; exact hc
    have S := Tryz.slices_Sort_string g 0 cap zs W hH hgl (by omega)
    rw [hlen] at S
    refine S.mono ?_
    rintro e w' ⟨rfl, n, os, rfl⟩
    refine ⟨rfl, ?_⟩
    obtain ⟨ys, hys⟩ : ∃ ys, ys = zs.mergeSort fun x y => decide (x ≤ y) := ⟨_, rfl⟩
    have hyl : ys.length = l.length := by rw [hys, List.length_mergeSort, hlen]
    rw [← hys]
    have hB1 : Below w.heap.size w (grow (putRow encStr (Sort.ahead W n) g 0 ys.toArray) os) := below_grow (below_putRow (below_ahead h.below n) hg) (by simp; exact h.below.size) os
    have hH1 : Holds encStr (grow (putRow encStr (Sort.ahead W n) g 0 ys.toArray) os) g 0 ys.toArray :=
      holds_grow encStr _ os g 0 _ (by simpa using hgl) (holds_putRow encStr _ g 0 zs.toArray _ (holds_ahead encStr W n g 0 _ hH) (by simp [hyl, hlen]))
    have hsz1 : g < (grow (putRow encStr (Sort.ahead W n) g 0 ys.toArray) os).heap.size := by simp; omega
    generalize grow (putRow encStr (Sort.ahead W n) g 0 ys.toArray) os = w1 at *
    have C := Tryz.slices_Compact_string g 0 cap ys w1 hH1 (by omega) (by omega)
    rw [hyl] at C
    refine C.mono ?_
    rintro e w'' ⟨rfl, q, rfl⟩
    refine ⟨_, rfl, below_putRow (below_ahead hB1 q) hg, g, ⟨.inr ⟨0, cap, ?_, ?_⟩⟩, by simpa using hsz1, .inr hg⟩
    · rw [sortedTexts, ← hzs, ← hys, List.length_map]
    · intro i x hx
      rw [sortedTexts, ← hzs, ← hys, List.getElem?_map] at hx
      obtain ⟨c, hc, rfl⟩ := Option.map_eq_some_iff.1 hx
      obtain ⟨hi, hci⟩ := List.getElem?_eq_some_iff.1 hc
      have hcl : (Lib.compact ys).length ≤ ys.length := compact_le ys
      have hcell := cell?_putRow encStr (Sort.ahead w1 q) g 0 ys.toArray (Lib.compact ys ++ List.replicate (l.length - (Lib.compact ys).length) []).toArray (holds_ahead encStr w1 q g 0 _ hH1) (by simp; omega) i (by simp; omega)
      rw [hcell, getElem!_list _ i (by simp; omega), List.getElem_append_left hi, hci]

/-- frame.textsOf: the different strings of all labels, sorted, in new memory. -/
theorem textsOf_any (B : Nat) (v : Value) (bs : List Ser) (w : World) (hb : BatchAt w B v bs) (hB : B ≤ w.heap.size) (hbl : bs.length ≤ 100) (hll : ∀ s ∈ bs, s.1.length ≤ 100) (h3 : 3 ≤ w.heap.size) :
    Calls Tryz.prog 110 #[v] w fun e w' => ∃ t, e = .returned t ∧ Below w.heap.size w w' ∧ ∃ tb, TextsAt w' t tb (sortedTexts (allTexts bs)) ∧ tb < w'.heap.size ∧ (tb = 0 ∨ w.heap.size ≤ tb) := by
  refine textsOf_loops B v bs w hb hB hbl hll (fun t w' => ∃ tb, TextsAt w' t tb (sortedTexts (allTexts bs)) ∧ tb < w'.heap.size ∧ (tb = 0 ∨ w.heap.size ≤ tb)) ?_
  intro W o h
  exact sortCompact w W o (allTexts bs) h (by have := allTexts_len bs hll; omega) h3
end Go.Proofs.YtamcclcbmenjdaaGreatDoor

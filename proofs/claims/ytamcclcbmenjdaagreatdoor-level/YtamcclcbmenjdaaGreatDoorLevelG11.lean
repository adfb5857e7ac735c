/- 'choirkeep.Level', for any list of steps (100 of them are done): when all are up, nothing is under way, and each has told each other one, all have the same, and compacted logs are the same bytes. The first form's statement and its card: no condition beside the row's own. -/
import Derived.Test.YtamcclcbmenjdaaGreatDoorLevelG10
import Derived.Maps.OwnSet
import Derived.DeepKeys4
/- The map of labels' numbers. -/
namespace Go.Proofs.YtamcclcbmenjdaaGreatDoor
open Go.RowKit Go.Lib
open Go.Maps (Keyed)

theorem Tryz.laidOutM : laidOutB Tryz.prog = true := by kernel_rfl
theorem Tryz.rowLab : (80 : TypeId) < Tryz.prog.types.size := of_decide_eq_true (by kernel_rfl)
theorem labKeyed : Keyed Tryz.prog 80 := Keyed.of_law (deep_law_laid Tryz.laidOutM (m := 2) (by omega) Tryz.rowLab (by kernel_rfl) (by rw [Tryz.underlying80]))
theorem Tryz.cellsLab : Tryz.prog.cellsOf 80 = 2 := by kernel_rfl
theorem Tryz.cellsStr : Tryz.prog.cellsOf 9 = 1 := by kernel_rfl
theorem Tryz.keyLab : Tryz.prog.keyType 80 = true := by kernel_rfl
theorem Tryz.zeroNum (w : World) : (zeroValue 193).run Tryz.prog w = .ok (.agg #[.int .i64 0, .int .i64 0]) w := by kernel_rfl

/-- What a label reads as, as a map's key. -/
def kLit (x : ByteArray × ByteArray) : Lit := .string (keyBytes [.string x.1.data.toList, .string x.2.data.toList])
def ShortL (x : ByteArray × ByteArray) : Prop := x.1.size ≤ maxLen ∧ x.2.size ≤ maxLen
theorem kLit_of (x : ByteArray × ByteArray) (h : ShortL x) : keyOf Tryz.prog 80 (.agg #[.string x.1, .string x.2]) = some (kLit x) := by
  have hf : (Value.agg #[.string x.1, .string x.2]).formed Tryz.prog 80 = true := by
    simp [Value.formed, Tryz.underlying80, Tryz.cellsLab]
  obtain ⟨n, hn⟩ : ∃ n, Tryz.prog.types.size = n + 1 := Nat.exists_eq_succ_of_ne_zero (Nat.ne_of_gt (Nat.lt_of_le_of_lt (Nat.zero_le _) Tryz.rowLab))
  unfold keyOf
  rw [Tryz.underlying80]
  simp only [Tryz.keyLab, hf, Bool.and_self, if_true, hn]
  simp [Program.keyLits, Tryz.underlying80, Tryz.cellsLab, Tryz.underlying9, Tryz.cellsStr, Value.cells, h.1, h.2, kLit]
theorem kLit_inj {x y : ByteArray × ByteArray} (hx : ShortL x) (hy : ShortL y) (h : kLit x = kLit y) : x = y := by
  have e := labKeyed.inj (kLit_of x hx) (h ▸ kLit_of y hy)
  simp at e
  exact Prod.ext e.1 e.2

/-- How a pair of numbers reads. -/
def numD : Value → Option (DataW Unit × List MemPlace)
  | .agg cs => match cs.toList with
    | [.int .i64 a, .int .i64 b] => some (.agg [.lit (.int .i64 a), .lit (.int .i64 b)], [])
    | _ => none
  | _ => none
theorem numD_mk (a b : Int) : numD (.agg #[.int .i64 a, .int .i64 b]) = some (.agg [.lit (.int .i64 a), .lit (.int .i64 b)], []) := rfl
theorem numD_inv {v : Value} {z : DataW Unit × List MemPlace} (h : numD v = some z) : ∃ a b, v = .agg #[.int .i64 a, .int .i64 b] ∧ z = (.agg [.lit (.int .i64 a), .lit (.int .i64 b)], []) := by
  unfold numD at h
  split at h
  · rename_i cs
    split at h
    · rename_i a b he
      cases h
      refine ⟨a, b, ?_, rfl⟩
      obtain ⟨l⟩ := cs
      simp only at he
      rw [he]
    · cases h
  · cases h
def pairD (texts : List ByteArray) (x : ByteArray × ByteArray) : DataW Unit := .agg [.lit (.int .i64 (placeOf texts x.1)), .lit (.int .i64 (placeOf texts x.2))]

/-- Block mb is a map that has the numbers of all labels of 'seen', and of no label wrong ones. -/
structure NumMap (w : World) (mb n : Nat) (texts : List ByteArray) (seen : List (ByteArray × ByteArray)) : Prop where
  ex : ∃ D : DataW Unit, w.ownsMap Tryz.prog 80 numD mb n D ∧ (∀ x ∈ seen, Maps.has D (kLit x) = true) ∧ ∀ x, ShortL x → Maps.has D (kLit x) = true → ∀ z, D.atKey (kLit x) z = pairD texts x

theorem NumMap.made (w : World) (texts : List ByteArray) : NumMap (w.alloc (.map #[] 0)) w.heap.size 0 texts [] :=
  ⟨⟨_, World.ownsMap_made w _ _ _, fun x hx => (List.not_mem_nil hx).elim, fun x _ h => by simp [Maps.has] at h⟩⟩
theorem NumMap.lt {w : World} {mb n : Nat} {texts : List ByteArray} {seen : List (ByteArray × ByteArray)} (h : NumMap w mb n texts seen) : mb < w.heap.size := by
  obtain ⟨D, h1, _⟩ := h.ex
  exact h1.lt
theorem NumMap.kept {w w' : World} {mb n : Nat} {texts : List ByteArray} {seen : List (ByteArray × ByteArray)} (h : NumMap w mb n texts seen) (hk : w'.heap[mb]? = w.heap[mb]?) : NumMap w' mb n texts seen := by
  obtain ⟨D, ⟨es, clock, hb, r⟩, h2, h3⟩ := h.ex
  exact ⟨D, ⟨es, clock, hk.trans hb, r⟩, h2, h3⟩
theorem NumMap.mono {w : World} {mb n m : Nat} {texts : List ByteArray} {seen : List (ByteArray × ByteArray)} (h : NumMap w mb n texts seen) (hn : n ≤ m) : NumMap w mb m texts seen := by
  obtain ⟨D, h1, h2⟩ := h.ex
  exact ⟨D, h1.mono hn, h2⟩
/-- labels[l] of a label that is there. -/
theorem NumMap.look {w : World} {mb n : Nat} {texts : List ByteArray} {seen : List (ByteArray × ByteArray)} (h : NumMap w mb n texts seen) {x : ByteArray × ByteArray} (hx : x ∈ seen) (hs : ShortL x) :
    (Instr.lookup 167 (.map (some mb)) (.agg #[.string x.1, .string x.2]) false).run Tryz.prog w = .ok (.agg #[.int .i64 (placeOf texts x.1), .int .i64 (placeOf texts x.2)]) w := by
  obtain ⟨D, h1, h2, h3⟩ := h.ex
  obtain ⟨v, ps, hrun, hv⟩ := h1.lookup labKeyed Tryz.underlying167 (Tryz.zeroNum w) (numD_mk 0 0) (kLit_of x hs)
  rw [h3 x hs (h2 x hx)] at hv
  obtain ⟨a, b, rfl, hz⟩ := numD_inv hv
  simp [pairD] at hz
  rw [hrun, ← hz.1.1, ← hz.1.2]
/-- _, ok := found[l]. -/
theorem NumMap.look_ok {w : World} {mb n : Nat} {texts : List ByteArray} {seen : List (ByteArray × ByteArray)} (h : NumMap w mb n texts seen) (x : ByteArray × ByteArray) (hs : ShortL x) :
    ∃ (a b : Int) (k : Bool), (Instr.lookup 167 (.map (some mb)) (.agg #[.string x.1, .string x.2]) true).run Tryz.prog w = .ok (.tuple #[.agg #[.int .i64 a, .int .i64 b], .bool k]) w ∧ (k = true → NumMap w mb n texts (seen ++ [x])) := by
  obtain ⟨D, h1, h2, h3⟩ := h.ex
  obtain ⟨v, ps, hrun, hv⟩ := h1.look_ok labKeyed Tryz.underlying167 (Tryz.zeroNum w) (numD_mk 0 0) (kLit_of x hs)
  obtain ⟨a, b, rfl, _⟩ := numD_inv hv
  refine ⟨a, b, _, hrun, fun hk => ⟨D, h1, fun y hy => ?_, h3⟩⟩
  rcases List.mem_append.1 hy with hy | hy
  · exact h2 y hy
  · rw [List.mem_singleton.1 hy]; exact hk
/-- found[l] = numbers{..}, in whatever world whose map is that one. -/
theorem NumMap.store {w : World} {mb n : Nat} {texts : List ByteArray} {seen : List (ByteArray × ByteArray)} (h : NumMap w mb n texts seen) (x : ByteArray × ByteArray) (hs : ShortL x) (hn : n < maxLen) :
    ∃ f : World → World, ∀ W, W.heap[mb]? = w.heap[mb]? →
      (Instr.mapUpdate 167 (.map (some mb)) (.agg #[.string x.1, .string x.2]) (.agg #[.int .i64 (placeOf texts x.1), .int .i64 (placeOf texts x.2)])).run Tryz.prog W = .ok () (f W) ∧
      NumMap (f W) mb (n + 1) texts (seen ++ [x]) ∧ W.grownBy (f W) (some mb) := by
  have hex : ∀ W : World, ∃ W', W.heap[mb]? = w.heap[mb]? →
      (Instr.mapUpdate 167 (.map (some mb)) (.agg #[.string x.1, .string x.2]) (.agg #[.int .i64 (placeOf texts x.1), .int .i64 (placeOf texts x.2)])).run Tryz.prog W = .ok () W' ∧
      NumMap W' mb (n + 1) texts (seen ++ [x]) ∧ W.grownBy W' (some mb) := by
    intro W
    by_cases hk : W.heap[mb]? = w.heap[mb]?
    · obtain ⟨D, h1, h2, h3⟩ := (h.kept hk).ex
      obtain ⟨W', hrun, g1, g2⟩ := h1.update labKeyed Tryz.underlying167 hn (kLit_of x hs) (numD_mk (placeOf texts x.1) (placeOf texts x.2))
      have hm : Maps.IsMap D := h1.isMap
      have hkl : WideAt.IsKeyLit (kLit x) := labKeyed.key (kLit_of x hs)
      refine ⟨W', fun _ => ⟨hrun, ⟨_, g1, fun y hy => ?_, fun y hy hh z => ?_⟩, g2⟩⟩
      · by_cases he : kLit y = kLit x
        · rw [he]; exact Maps.has_put_same hm hkl _
        · rw [Maps.has_put_other he]
          rcases List.mem_append.1 hy with hy | hy
          · exact h2 y hy
          · exact absurd (by rw [List.mem_singleton.1 hy]) he
      · by_cases he : kLit y = kLit x
        · have hyx := kLit_inj hy hs he
          rw [hyx, Maps.atKey_put_same hm hkl]; rfl
        · rw [Maps.has_put_other he] at hh
          rw [Maps.atKey_put_other he]
          exact h3 y hy hh z
    · exact ⟨W, fun e => absurd e hk⟩
  exact ⟨fun W => Classical.choose (hex W), fun W => Classical.choose_spec (hex W)⟩
end Go.Proofs.YtamcclcbmenjdaaGreatDoor

/- appendSeries. -/
namespace Go.Proofs.YtamcclcbmenjdaaGreatDoor
open Go.RowKit Go.Lib

/-- What has been appended so far to a slice of the caller's own. -/
structure App (base : Nat) (w : World) (v : Value) (W : World) (o : Value) (zs : List UInt8) : Prop where
  bytes : Bytes base W o zs
  grown : w.grownBy W v.ownBlock
  heir : Heir w v o

theorem App.step {base : Nat} {w W W' : World} {v o o' : Value} {zs zs' : List UInt8} (h : App base w v W o zs) (hb : Bytes base W' o' zs') (hg : W.grownBy W' o.ownBlock) (hh : Heir W o o') : App base w v W' o' zs' :=
  ⟨hb, grownBy_trans h.grown hg h.heir, h.heir.trans hh h.grown.size⟩
/-- Where new blocks are made, and no more. -/
theorem App.below {base : Nat} {w W W' : World} {v o : Value} {zs : List UInt8} (h : App base w v W o zs) (hb : Below W.heap.size W W') : App base w v W' o zs :=
  h.step (h.bytes.kept fun k hv => hb.block k (World.ownsRow.lt h.bytes k hv).2) (grownBy_of_below _ hb) (Heir.refl _ _)
theorem App.drewN {base : Nat} {w W : World} {v o : Value} {zs : List UInt8} (h : App base w v W o zs) (q : Nat) : App base w v (W.drewN q) o zs := h.below (below_drewN (Below.refl _ _) q)
theorem App.alloc {base : Nat} {w W : World} {v o : Value} {zs : List UInt8} (h : App base w v W o zs) (ob : Obj) : App base w v (W.alloc ob) o zs := h.below ((Below.refl _ _).alloc (Nat.le_refl _) ob)
theorem App.block {base : Nat} {w W : World} {v o : Value} {zs : List UInt8} (h : App base w v W o zs) {k : Nat} (hk : k < w.heap.size) (ho : some k ≠ v.ownBlock) : W.heap[k]? = w.heap[k]? := h.grown.block k hk ho
theorem App.cell {base : Nat} {w W : World} {v o : Value} {zs : List UInt8} (h : App base w v W o zs) {k : Nat} (hk : k < w.heap.size) (ho : some k ≠ v.ownBlock) (j : Nat) : W.cell? ⟨k, j, none⟩ = w.cell? ⟨k, j, none⟩ :=
  World.cell?_of_block (a := ⟨k, j, none⟩) (h.block hk ho)
theorem App.ne {base : Nat} {w W : World} {v o : Value} {zs : List UInt8} (h : App base w v W o zs) {k : Nat} (hk : k < w.heap.size) (ho : some k ≠ v.ownBlock) : some k ≠ o.ownBlock := heir_ne h.heir ho hk

theorem App.trans {base : Nat} {w W W' : World} {v o o' : Value} {zs zs' : List UInt8} (h : App base w v W o zs) (k : App base W o W' o' zs') : App base w v W' o' zs' := h.step k.bytes k.grown k.heir
theorem App.of_alloc {base : Nat} {w W : World} {v o : Value} {ob : Obj} {zs : List UInt8} (h : App base (w.alloc ob) v W o zs) : App base w v W o zs := ⟨h.bytes, grownBy_alloc_then h.grown, h.heir.of_alloc⟩
theorem App.self {base : Nat} {w W : World} {v o : Value} {zs : List UInt8} (h : App base w v W o zs) : App base W o W o zs := ⟨h.bytes, grownBy_refl _ _, Heir.refl _ _⟩
/-- One varint more. -/
theorem App.varint {base : Nat} {w W : World} {v o : Value} {zs : List UInt8} (N : Int) (n : Nat) (h : App base w v W o zs) (hN : N = n) (hn : n ≤ 1000000000) (hz : zs.length ≤ 1000000) (hb : base ≤ w.heap.size) :
    Calls Tryz.prog 111 #[o, .int .i64 N] W fun e w' => ∃ o', e = .returned o' ∧ App base w v w' o' (zs ++ Pl.varint n) := by
  subst hN
  refine (appendVarint_any base o zs n W h.bytes (by omega) (by omega) (Nat.le_trans hb h.grown.size)).mono ?_
  rintro e w' ⟨o', rfl, h1, h2, h3⟩
  exact ⟨o', rfl, h.step h1 h2 h3⟩

def labelsBytes (texts : List ByteArray) (l : List (ByteArray × ByteArray)) : List UInt8 := l.flatMap fun x => Pl.varint (placeOf texts x.1) ++ Pl.varint (placeOf texts x.2)
def chunkBytes (l : List (Int × Nat)) : List UInt8 := Pl.pack (chunkBits l)
def seriesBytes (texts : List ByteArray) (l : List (ByteArray × ByteArray)) (s : List (Int × Nat)) : List UInt8 :=
  Pl.varint l.length ++ labelsBytes texts l ++ Pl.varint s.length ++ Pl.varint (chunkBytes s).length ++ chunkBytes s

theorem placeOf_le (l : List ByteArray) (x : ByteArray) : placeOf l x ≤ l.length := by
  unfold placeOf
  have : ∀ (f : Nat) (less : Nat → Bool) (lo hi : Nat), lo ≤ hi → Lib.bsGo less f lo hi ≤ hi := by
    intro f less
    induction f with
    | zero => intro lo hi h; exact h
    | succ f ih =>
      intro lo hi h
      unfold Lib.bsGo
      split
      · split
        · exact ih _ _ (by omega)
        · exact Nat.le_trans (ih _ _ (by omega)) (by omega)
      · exact h
  exact this _ _ _ _ (Nat.zero_le _)
theorem labelsBytes_take (texts : List ByteArray) (l : List (ByteArray × ByteArray)) (k : Nat) (x : ByteArray × ByteArray) (h : l[k]? = some x) :
    labelsBytes texts (l.take (k + 1)) = labelsBytes texts (l.take k) ++ Pl.varint (placeOf texts x.1) ++ Pl.varint (placeOf texts x.2) := by
  obtain ⟨hk, hx⟩ := List.getElem?_eq_some_iff.1 h
  rw [List.take_succ_eq_append_getElem hk, hx, labelsBytes, List.flatMap_append]
  simp [labelsBytes]
theorem labelsBytes_len (texts : List ByteArray) (l : List (ByteArray × ByteArray)) : (labelsBytes texts l).length ≤ 20 * l.length := by
  induction l with
  | nil => simp [labelsBytes]
  | cons x r ih =>
    have h1 := Pl.varint_length (placeOf texts x.1)
    have h2 := Pl.varint_length (placeOf texts x.2)
    simp only [labelsBytes, List.flatMap_cons, List.length_append, List.length_cons] at ih ⊢
    omega

theorem oneBs (l : List UInt8) : ∀ u ∈ Pl.Bs l, u.oneCell' = true := by
  intro u hu
  obtain ⟨b, _, rfl⟩ := List.mem_map.1 hu
  rfl
theorem bytes_app {base n : Nat} {w : World} {v : Value} {a b : List UInt8} (h : w.ownsRow base 5 1 v n (Pl.Bs a ++ Pl.Bs b)) : Bytes base w v (a ++ b) := by
  have hn : n = (a ++ b).length := by have := h.1; rw [← Pl.Bs_append, Pl.Bs_length] at this; omega
  unfold Bytes
  rw [Pl.Bs_append, ← hn]; exact h
theorem nextZ_le (a z x : Nat) (hz : z ≤ 64) : nextZ a z x ≤ 64 := by
  unfold nextZ; split
  · unfold newSize; omega
  · exact hz
theorem arith150 (n : Nat) : 150 + 150 * n ≤ 150 * (n + 1) := by omega
theorem timeBits_len (t s x : Nat) : (timeBits t s x).length ≤ 69 := by
  unfold timeBits
  generalize sub64 (sub64 x t) s = e
  have h1 := markOf_app [] (stepWay e) 4
  have h2 := stepWay_le e
  have h3 := stepWidth_le (stepWay e)
  generalize add64 e (stepShift (stepWay e)) = y
  generalize stepWay e = k at *
  rw [List.length_append, Pl.bitsOf_length]
  rw [List.nil_append, List.length_nil] at h1
  omega
theorem piece_len (t s y a z x : Nat) (hz : z ≤ 64) : (timeBits t s y ++ bitBits a z x).length ≤ 150 := by
  have h2 := timeBits_len t s y
  generalize timeBits t s y = l at *
  have h1 := bitBits_app l a z x hz
  omega
theorem goBits_len (r : List (Int × Nat)) : ∀ (t s b a z : Nat), z ≤ 64 → (goBits t s b a z r).length ≤ 150 * r.length := by
  induction r with
  | nil => intros; simp [goBits]
  | cons x r ih =>
    intro t s b a z hz
    rw [goBits, List.length_append, List.length_cons]
    exact Nat.le_trans (Nat.add_le_add (piece_len t s (u64 x.1) a z (x.2 ^^^ b) hz) (ih _ _ _ _ _ (nextZ_le _ _ _ hz))) (arith150 r.length)
theorem chunkBytes_len (l : List (Int × Nat)) (h : l.length ≤ 300) : (Pl.pack (chunkBits l)).length ≤ 6000 := by
  rw [Pl.pack_length]
  cases l with
  | nil => simp [chunkBits]
  | cons x r =>
    have := goBits_len r (u64 x.1) 0 x.2 0 0 (by omega)
    rw [chunkBits, List.length_append, List.length_append, Pl.bitsOf_length, Pl.bitsOf_length]
    simp at h
    omega
theorem chunkBytes_pos (l : List (Int × Nat)) (h : 0 < l.length) : 0 < (Pl.pack (chunkBits l)).length := by
  rw [Pl.pack_length]
  cases l with
  | nil => simp at h
  | cons x r => rw [chunkBits, List.length_append, List.length_append, Pl.bitsOf_length, Pl.bitsOf_length]; omega

set_option maxRecDepth 100000 in
set_option maxHeartbeats 400000 in
theorem appendSeries_any (base B tb nn : Nat) (v lv sv : Value) (xs : List UInt8) (texts : List ByteArray) (seen : List (ByteArray × ByteArray)) (labels : List (ByteArray × ByteArray)) (samples : List (Int × Nat)) (w : World)
    (hv : Bytes base w v xs) (hxs : xs.length ≤ 100000) (hbase : base ≤ w.heap.size) (hBb : B ≤ base) (h3 : 3 ≤ base) (hT : Tabs w)
    (ht : NumMap w tb nn texts seen) (hseen : ∀ x ∈ labels, x ∈ seen ∧ ShortL x) (htl : texts.length ≤ 1000) (htb : tb < w.heap.size) (hto : some tb ≠ v.ownBlock)
    (hL : LabelsAt w B lv labels) (hll : labels.length ≤ 100) (hS : SamplesAt w B sv samples) (hs0 : samples ≠ []) (hsl : samples.length ≤ 300) :
    Calls Tryz.prog 113 #[v, .map (some tb), .agg #[lv, sv]] w fun e w' => ∃ v', e = .returned v' ∧ App base w v w' v' (xs ++ seriesBytes texts labels samples) := by
  have hown : ∀ k, v.ownBlock = some k → base ≤ k ∧ k < w.heap.size := fun k e => World.ownsRow.lt hv k e
  have hbox : some w.heap.size ≠ v.ownBlock := fun e => absurd (hown _ e.symm).2 (Nat.lt_irrefl _)
  obtain ⟨la, lcap, rfl, hlc, hL2⟩ := hL
  have hSv := hS
  obtain ⟨sa, scap, rfl, hsc, _⟩ := hSv
  have hcL : ∀ k y, labels[k]? = some y → ∃ b o, la = some ⟨b, o, none⟩ ∧ b < B ∧ w.cell? ⟨b, o + k * 2, none⟩ = some (.string y.1) ∧ w.cell? ⟨b, o + k * 2 + 1, none⟩ = some (.string y.2) := by
    intro k y hy
    rcases hL2 with h | ⟨b, o, ha, hb, hc⟩
    · rw [h] at hy; cases hy
    · exact ⟨b, o, ha, hb, (hc k y hy).1, (hc k y hy).2⟩
  have hold : ∀ k, k < B → some k ≠ v.ownBlock := fun k hk e => by have := (hown k e.symm).1; omega
  have HC := hide hcL
  have HO := hide hold
  have HS := hide hS
  have HTx := hide ht
  have HSe := hide hseen
  have HTo := hide hto
  have HTa := hide hT
  have HOw := hide hown
  have HBx := hide hbox
  obtain ⟨w0, hw0⟩ : ∃ w0, w0 = w.alloc (.cells #[.slice la labels.length lcap, .slice sa samples.length scap] 38) := ⟨_, rfl⟩
  have A0 : App base w0 v w0 v xs := ⟨by rw [hw0]; exact hv.kept fun k e => heap_alloc_old w _ (hown k e).2, grownBy_refl _ _, Heir.refl _ _⟩
  have hz0 : w0.heap.size = w.heap.size + 1 := by rw [hw0]; simp
  have hk0 : ∀ k, k < w.heap.size → w0.heap[k]? = w.heap[k]? := fun k hk => by rw [hw0]; exact heap_alloc_old w _ hk
  have hb0 : w0.cell? ⟨w.heap.size, 0, none⟩ = some (.slice la labels.length lcap) := by rw [hw0]; exact World.cell?_alloc_new _ _ _ 0
  have hb1 : w0.cell? ⟨w.heap.size, 1, none⟩ = some (.slice sa samples.length scap) := by rw [hw0]; exact World.cell?_alloc_new _ _ _ 1
  have HA0 := hide A0
  have HK0 := hide hk0
  have HW0 := hide hw0
  have HZ0 := hide hz0
  clear hcL hold hS ht hseen hto hT hown hbox hL2 hv A0 hk0 hz0
  go_enter Tryz.func113, Tryz.ntmps113
  go_wp2_with fail
  rw [← HW0.out]
  have hbase0 : base ≤ w0.heap.size := by rw [HZ0.out]; omega
  refine (HA0.out.varint _ labels.length rfl (by omega) (by omega) hbase0).mono ?_
  rintro e w1 ⟨o1, rfl, A1⟩
  have g0 := (A1.cell (k := w.heap.size) (by rw [HZ0.out]; omega) HBx.out 0).trans hb0
  have HA1 := hide A1
  clear A1 hw0
  go_wp2
  go_loopw [0, 8, 9, 19] (fun o _ _ i wr => ∃ k : Nat, k ≤ labels.length ∧ i = .int .i64 k ∧ App base w0 v wr o (xs ++ Pl.varint labels.length ++ labelsBytes texts (labels.take k))) (fun _ _ _ i _ => labels.length - (intOf i).toNat)
  case atStart => exact ⟨0, Nat.zero_le _, rfl, by simpa [labelsBytes] using HA1.out⟩
  case round =>
    obtain ⟨k, hk, rfl, hA⟩ := hrel
    have HA := hide hA
    have hlz : (xs ++ Pl.varint labels.length ++ labelsBytes texts (labels.take k)).length ≤ 200000 := by
      have h1 := Pl.varint_length labels.length
      have h2 := labelsBytes_len texts (labels.take k)
      have h3 : (labels.take k).length ≤ k := List.length_take_le _ _
      rw [List.length_append, List.length_append]; omega
    have HLZ := hide hlz
    clear hA HA1 g0 hlz
    by_cases hlt : k < labels.length
    · obtain ⟨⟨ky, vy⟩, hy⟩ : ∃ y, labels[k]? = some y := ⟨_, List.getElem?_eq_getElem hlt⟩
      obtain ⟨b, o, rfl, hbB, hc1, hc2⟩ := HC.out k (ky, vy) hy
      have hsz := HZ0.out
      have e1 : wr.heap[b]? = w.heap[b]? := (HA.out.block (by omega) (HO.out b hbB)).trans (HK0.out b (by omega))
      have m0 : wr.cell? ⟨b, o + k * 2, none⟩ = some (.string ky) := (World.cell?_of_block (a := ⟨b, o + k * 2, none⟩) e1).trans hc1
      have m1 : wr.cell? ⟨b, o + k * 2 + 1, none⟩ = some (.string vy) := (World.cell?_of_block (a := ⟨b, o + k * 2 + 1, none⟩) e1).trans hc2
      have KT : NumMap wr tb nn texts seen := HTx.out.kept ((HA.out.block (by omega) HTo.out).trans (HK0.out tb htb))
      have hse := HSe.out (ky, vy) (List.mem_of_getElem? hy)
      have hlook := (KT.kept (w' := wr.alloc (.cells #[.string ky, .string vy] 80)) (heap_alloc_old wr _ KT.lt)).look hse.1 hse.2
      simp only at hlook
      have hbw : base ≤ wr.heap.size := by have := HA.out.grown.size; omega
      have hbu : some (wr.heap.size + 1) ≠ u0.ownBlock := fun e => by have := (World.ownsRow.lt HA.out.bytes _ e.symm).2; omega
      obtain ⟨W, hW⟩ : ∃ W, W = (wr.alloc (.cells #[.string ky, .string vy] 80)).alloc (.cells #[.int .i64 (placeOf texts ky), .int .i64 (placeOf texts vy)] 193) := ⟨_, rfl⟩
      have B0 : App base W u0 W u0 (xs ++ Pl.varint labels.length ++ labelsBytes texts (labels.take k)) := by rw [hW]; exact ((HA.out.self.alloc _).alloc _).self
      have hWs : W.heap.size = wr.heap.size + 2 := by rw [hW]; simp
      have n1 : W.cell? ⟨wr.heap.size + 1, 1, none⟩ = some (.int .i64 (placeOf texts vy)) := by
        rw [hW]; simp
      have HE := hide (labelsBytes_take texts labels k (ky, vy) hy)
      have hp1 := placeOf_le texts ky
      have hp2 := placeOf_le texts vy
      have HB0 := hide B0
      have HW := hide hW
      have HWs := hide hWs
      have HBU := hide hbu
      have HN1 := hide n1
      clear KT B0 hWs hbu n1 e1 hc1 hc2 hy hsz hW hse
      go_wp2_with fail
      rw [← HW.out]
      refine (HB0.out.varint _ (placeOf texts ky) rfl (by omega) (by have := HLZ.out; omega) (by rw [HWs.out]; omega)).mono ?_
      rintro e w3 ⟨o3, rfl, A3⟩
      have k1 := (A3.cell (k := wr.heap.size + 1) (by rw [HWs.out]; omega) HBU.out 1).trans HN1.out
      have HA3 := hide A3
      have hl3 := Pl.varint_length (placeOf texts ky)
      clear A3 m0 m1 hlook
      go_wp2_with fail
      refine (HA3.out.varint _ (placeOf texts vy) rfl (by omega) (by have := HLZ.out; rw [List.length_append]; omega) (by rw [HWs.out]; omega)).mono ?_
      rintro e w5 ⟨o5, rfl, A5⟩
      clear k1
      have A6 : App base w0 v w5 o5 (xs ++ Pl.varint labels.length ++ labelsBytes texts (labels.take (k + 1))) := by
        rw [HW.out] at A5
        have h := HA.out.trans A5.of_alloc.of_alloc
        rw [HE.out]
        simpa only [List.append_assoc] using h
      have HA6 := hide A6
      clear A5 A6 HA3 hl3 hp1 hp2
      go_wp2
      go_roundw
      case rel => exact ⟨k + 1, by omega, by go_num, HA6.out⟩
      case measure => simp [intOf]; omega
    · have hsz := HZ0.out
      have g1 := (HA.out.cell (k := w.heap.size) (by omega) HBx.out 1).trans hb1
      clear hsz
      have KS : SamplesAt wr B (.slice sa samples.length scap) samples := HS.out.kept fun j hj => (HA.out.block (by have := HZ0.out; omega) (HO.out j hj)).trans (HK0.out j (by omega))
      have KT : Tabs wr := HTa.out.kept ((HA.out.block (by have := HZ0.out; omega) (fun e => by have := (HOw.out _ e.symm).1; omega)).trans (HK0.out _ (by omega))) ((HA.out.block (by have := HZ0.out; omega) (fun e => by have := (HOw.out _ e.symm).1; omega)).trans (HK0.out _ (by omega)))
      have hwr : B ≤ wr.heap.size := by have := HA.out.grown.size; have := HZ0.out; omega
      obtain ⟨sx, sr, hsx⟩ : ∃ sx sr, samples = sx :: sr := by cases samples with | nil => exact absurd rfl hs0 | cons a r => exact ⟨a, r, rfl⟩
      have CP := hide (packChunk_any B (.slice sa samples.length scap) sx sr wr (by rw [← hsx]; exact KS) hwr KT (by rw [hsx] at hsl; simp at hsl; omega))
      rw [← hsx] at CP
      have hk2 : k = labels.length := by omega
      rw [hk2, List.take_of_length_le (Nat.le_refl _)] at HA HLZ
      have hs1 : 0 < samples.length := by rw [hsx]; simp
      clear KS KT hwr hsx hk2 hs0
      go_wp2_with fail
      refine CP.out.mono ?_
      rintro e w2 ⟨c, rfl, hcb, hb2⟩
      have hch := chunkBytes_pos samples hs1
      have hcl := chunkBytes_len samples hsl
      have HCL := hide hcl
      obtain ⟨g, ccap, hcv, hg⟩ := ownsRow_some hcb hch
      rw [hcv] at hcb ⊢
      have A2 := HA.out.below hb2
      have hog : some g ≠ u0.ownBlock := fun e => by have := (World.ownsRow.lt HA.out.bytes _ e.symm).2; omega
      have hgl : g < w2.heap.size := (World.ownsRow.lt hcb g rfl).2
      have g2 := (A2.cell (k := w.heap.size) (by have := HZ0.out; omega) HBx.out 1).trans hb1
      have HA2 := hide A2
      have HCB := hide hcb
      have HOG := hide hog
      have HGL := hide hgl
      clear hb2 A2 hcb hog hgl hcv CP HA g1
      go_wp2_with fail
      refine (HA2.out.self.varint _ samples.length rfl (by omega) (by have := HLZ.out; omega) (Nat.le_trans hbase0 HA2.out.grown.size)).mono ?_
      rintro e w3 ⟨o3, rfl, A3⟩
      have HA3 := hide A3
      have hl3 := Pl.varint_length samples.length
      clear A3 g2 hch hcl
      go_wp2_with fail
      refine (HA3.out.varint _ (Pl.pack (chunkBits samples)).length rfl (by have := HCL.out; omega) (by have := HLZ.out; rw [List.length_append]; omega) (by have := HA2.out.grown.size; omega)).mono ?_
      rintro e w4 ⟨o4, rfl, A4⟩
      have HA4 := hide A4
      have hb4 : base ≤ w4.heap.size := by have := A4.grown.size; have := HA2.out.grown.size; omega
      have hl4 := Pl.varint_length (Pl.pack (chunkBits samples)).length
      obtain ⟨i0, hi, hz0, hz1, hz2⟩ := info_parts Tryz.infoU8
      have hcell4 : ∀ j u, (Pl.Bs (Pl.pack (chunkBits samples)))[j]? = some u → w4.cell? ((⟨g, 0, none⟩ : Addr).add j) = some u := World.ownsRow.cells (g := g) (HCB.out.kept (w' := w4) fun q e => by
        obtain rfl : g = q := by simpa [Value.ownBlock] using e
        exact A4.block HGL.out HOG.out) rfl
      have HC4 := hide hcell4
      clear A4 HA3 hcell4 hl3
      go_wp2_with (first | (at_builtin; refine wpList_append_heir _ rfl (.tmp 47) (.tmp 48) 83 rfl base 5 i0 (.int .u8 0) 1 1 Tryz.underlying83 hi hz0 hz1 hz2 rfl (by decide) _ _ _ rfl HA4.out.bytes ⟨g, 0, none⟩ (Pl.pack (chunkBits samples)).length ccap (Pl.Bs (Pl.pack (chunkBits samples))) rfl ?c0 ?c1 ?c2 ?c3 ?c4 hb4 ?_))
      case c0 => rw [Pl.Bs_length, Nat.mul_one]
      case c1 => exact HC4.out
      case c2 => exact oneBs _
      case c3 => unfold maxLen; rw [List.length_append, List.length_append]; have h1 := HLZ.out; have h2 := HCL.out; have h3 := Pl.varint_length samples.length; omega
      case c4 => rw [List.length_append, List.length_append]; have h1 := HLZ.out; have h2 := HCL.out; have h3 := Pl.varint_length samples.length; omega
      intro v5 w5 hown5 hgrow5 hheir5
      have A5 := HA2.out.trans (HA4.out.step (W' := w5) (o' := v5) (bytes_app hown5) hgrow5 hheir5)
      have HA5 := hide A5
      clear A5 hown5 hgrow5 hheir5
      go_wp2
      go_ret
      have A6 : App base w v w5 v5 (xs ++ seriesBytes texts labels samples) := by
        have h := HA5.out
        rw [HW0.out] at h
        have h6 := h.of_alloc
        simpa only [seriesBytes, chunkBytes, List.append_assoc] using h6
      exact ⟨_, rfl, A6⟩
end Go.Proofs.YtamcclcbmenjdaaGreatDoor

/- 'choirlaw.Reads', for any list of texts of bulk at most 1048576: Decode answers the document's batch or error, one behind the other; lists that came out are their owner's own. The second form's statement and its card: its only condition is the row's own bound on the argument's bulk. -/
import Derived.Test.YtamcclcbmenjdaaGreatDoorProg
import Derived.Test.YtamcclcbmenjdaaGreatDoorReadsuptoG2
import Derived.Test.YtamcclcbmenjdaaGreatDoorReadsuptoG1
import Derived.WalkLawsBesides
import Derived.BigRegion
import Derived.Deep.RegionLaw
import Derived.Deep.Cut
/- frame.appendVarint's contract. -/
namespace Go.Proofs.YtamcclcbmenjdaaGreatDoor
open Go.RowKit

theorem Tryz.infoU8 : (Tryz.prog.info? 5).map (fun i => (i.zero, i.size, i.bytes)) = some (some (.int .u8 0), 1, 1) := by kernel_rfl

/-- What the call of a function that appends bytes to a slice of its caller's own leaves. -/
def Appended (base : Nat) (v : Value) (xs ys : List UInt8) (w : World) (v' : Value) (w' : World) : Prop :=
  w'.ownsRow base 5 1 v' (xs.length + ys.length) (Pl.Bs (xs ++ ys)) ∧ w.grownBy w' v.ownBlock ∧ Heir w v v'
def Bytes (base : Nat) (w : World) (v : Value) (xs : List UInt8) : Prop := w.ownsRow base 5 1 v xs.length (Pl.Bs xs)

theorem oneB (b : Int) : ∀ u ∈ [Value.int .u8 b], u.oneCell' = true := by intro u hu; simp at hu; subst hu; rfl

theorem varint_step {n f m : Nat} {ys : List UInt8} (h : Hid (m < 128 ^ (f + 1))) (hlt : 127 < m) (HV : Hid (Pl.varint n = ys ++ Pl.varintF f m)) :
    ∃ f', f = f' + 1 ∧ Hid (m / 128 < 128 ^ (f' + 1)) ∧ Hid (Pl.varint n = (ys ++ [UInt8.ofNat (m % 128 + 128)]) ++ Pl.varintF f' (m / 128)) := by
  cases f with
  | zero => have := h.out; omega
  | succ f => 
    refine ⟨f, rfl, ?_, ?_⟩
    · show m / 128 < 128 ^ (f + 1)
      have h' : m < 128 ^ (f + 1) * 128 := by rw [← Nat.pow_succ]; exact h.out
      omega
    · show Pl.varint n = _
      rw [HV.out, Pl.varintF_big f m (by omega)]; simp
/-- One byte more: what an append's law leaves, in the words of 'Bytes'. -/
theorem bytes_step {base : Nat} {w wr w1 : World} {v o v' : Value} {zs : List UInt8} {ob : Obj} {n' : Nat} (c : Int) (hg : w.grownBy wr v.ownBlock) (hh : Heir w v o)
    (hown' : w1.ownsRow base 5 1 v' n' (Pl.Bs zs ++ [.int .u8 c])) (hgrow : (wr.alloc ob).grownBy w1 o.ownBlock) (hheir : Heir (wr.alloc ob) o v') (b : UInt8) (hb : (b.toNat : Int) = c) :
    Bytes base w1 v' (zs ++ [b]) ∧ w.grownBy w1 v.ownBlock ∧ Heir w v v' := by
  refine ⟨?_, grownBy_trans hg (grownBy_alloc_then hgrow) hh, hh.trans hheir.of_alloc hg.size⟩
  unfold Bytes
  have hn : n' = (zs ++ [b]).length := by have := hown'.1; simp [Pl.Bs_length] at this; simp [this]
  rw [Pl.Bs_append, show Pl.Bs [b] = [.int .u8 c] by simp [Pl.Bs, Pl.B, hb], ← hn]
  exact hown'

set_option maxRecDepth 100000 in
set_option maxHeartbeats 400000 in
theorem appendVarint_any (base : Nat) (v : Value) (xs : List UInt8) (n : Nat) (w : World) (hown : Bytes base w v xs) (hn : n ≤ 9223372036854775807) (hx : xs.length ≤ 1099511627776) (hb : base ≤ w.heap.size) :
    Calls Tryz.prog 111 #[v, .int .i64 n] w fun e w' => ∃ v', e = .returned v' ∧ Bytes base w' v' (xs ++ Pl.varint n) ∧ w.grownBy w' v.ownBlock ∧ Heir w v v' := by
  obtain ⟨i0, hi, hz0, hz1, hz2⟩ := info_parts Tryz.infoU8
  go_enter Tryz.func111, Tryz.ntmps111
  go_wp2
  go_loopw [0, 1] (fun o q wr => ∃ (f m : Nat) (ys : List UInt8), m ≤ 9223372036854775807 ∧ Hid (m < 128 ^ (f + 1)) ∧ q = .int .i64 m ∧ Bytes base wr o (xs ++ ys) ∧ w.grownBy wr v.ownBlock ∧ Heir w v o ∧ ys.length + f ≤ 9 ∧ Hid (Pl.varint n = ys ++ Pl.varintF f m)) (fun _ q _ => (intOf q).toNat)
  case atStart => exact ⟨9, n, [], by omega, by show n < 128 ^ 10; omega, rfl, by simpa using hown, grownBy_refl _ _, Heir.refl _ _, by simp, rfl⟩
  case round =>
    obtain ⟨f, m, ys, hm, hmf, rfl, hbs, hg, hh, hl, HV⟩ := hrel
    have hand := Pl.and127_i64 m (by omega)
    have hor : bits .or .i64 ((m : Int) % 128) 128 = (m : Int) % 128 + 128 := by have := Pl.or128_i64 (m % 128) (by omega); simpa using this
    by_cases hlt : 127 < m
    · go_wp2_with (first | (at_builtin; refine wpList_append_heir _ rfl (.tmp 7) (.tmp 12) 83 rfl base 5 i0 (.int .u8 0) 1 1 Tryz.underlying83 hi hz0 hz1 hz2 rfl (by decide) _ _ _ rfl (hbs.alloc _) ⟨wr.heap.size, 0, none⟩ 1 1 [.int .u8 ((m : Int) % 128 + 128)] rfl rfl ?c1 ?c2 ?c3 ?c4 ?c5 ?_))
      case c1 => exact cell_one_new _ _ _
      case c2 => exact oneB _
      case c3 => simp; unfold maxLen; omega
      case c4 => simp; omega
      case c5 => have := hg.size; simp; omega
      intro v' w1 hown' hgrow hheir
      have hstep := varint_step hmf hlt HV
      have R := bytes_step ((m : Int) % 128 + 128) hg hh hown' hgrow hheir (UInt8.ofNat (m % 128 + 128)) (by rw [Pl.u8_ofNat _ (by omega)]; omega)
      clear hown' hgrow hheir hbs hg hh HV hmf
      obtain ⟨f', rfl, hmf', HV'⟩ := hstep
      go_wp2
      go_roundw
      case rel => exact ⟨f', m / 128, ys ++ [UInt8.ofNat (m % 128 + 128)], by omega, hmf', by go_num, by rw [← List.append_assoc]; exact R.1, R.2.1, R.2.2, by simp; omega, HV'⟩
      case measure => simp [intOf]; omega
    · go_wp2_with (first | (at_builtin; refine wpList_append_heir _ rfl (.tmp 16) (.tmp 19) 83 rfl base 5 i0 (.int .u8 0) 1 1 Tryz.underlying83 hi hz0 hz1 hz2 rfl (by decide) _ _ _ rfl (hbs.alloc _) ⟨wr.heap.size, 0, none⟩ 1 1 [.int .u8 (m : Int)] rfl rfl ?c1 ?c2 ?c3 ?c4 ?c5 ?_))
      case c1 => exact cell_one_new _ _ _
      case c2 => exact oneB _
      case c3 => simp; unfold maxLen; omega
      case c4 => simp; omega
      case c5 => have := hg.size; simp; omega
      intro v' w1 hown' hgrow hheir
      have R := bytes_step (m : Int) hg hh hown' hgrow hheir (UInt8.ofNat m) (by rw [Pl.u8_ofNat _ (by omega)])
      clear hown' hgrow hheir hbs hg hh
      go_wp2
      go_ret
      exact ⟨_, rfl, by rw [HV.out, Pl.varintF_small f m (by omega), ← List.append_assoc]; exact R.1, R.2.1, R.2.2⟩
end Go.Proofs.YtamcclcbmenjdaaGreatDoor

/- Plain: bits in bytes, the highest first. -/
namespace Go.Proofs.YtamcclcbmenjdaaGreatDoor.Pl

def byteOf (f : Nat → Bool) : Nat :=
  (f 0).toNat * 128 + (f 1).toNat * 64 + (f 2).toNat * 32 + (f 3).toNat * 16 + (f 4).toNat * 8 + (f 5).toNat * 4 + (f 6).toNat * 2 + (f 7).toNat
theorem byteOf_lt (f : Nat → Bool) : byteOf f < 256 := by
  unfold byteOf
  have h : ∀ b : Bool, b.toNat ≤ 1 := fun b => by cases b <;> decide
  have := h (f 0); have := h (f 1); have := h (f 2); have := h (f 3); have := h (f 4); have := h (f 5); have := h (f 6); have := h (f 7)
  omega
theorem byteOf_congr {f g : Nat → Bool} (h : ∀ i, i < 8 → f i = g i) : byteOf f = byteOf g := by
  unfold byteOf
  rw [h 0 (by omega), h 1 (by omega), h 2 (by omega), h 3 (by omega), h 4 (by omega), h 5 (by omega), h 6 (by omega), h 7 (by omega)]
theorem byteOf_set (g : Nat → Bool) (b : Bool) (m : Nat) (hm : m < 8) (hz : ∀ i, m ≤ i → g i = false) :
    byteOf g % 2 ^ (8 - m) = 0 ∧ byteOf (fun i => if i = m then b else g i) = byteOf g + b.toNat * 2 ^ (7 - m) := by
  have h0 := hz 0; have h1 := hz 1; have h2 := hz 2; have h3 := hz 3; have h4 := hz 4; have h5 := hz 5; have h6 := hz 6; have h7 := hz 7
  have e : m = 0 ∨ m = 1 ∨ m = 2 ∨ m = 3 ∨ m = 4 ∨ m = 5 ∨ m = 6 ∨ m = 7 := by omega
  rcases e with rfl | rfl | rfl | rfl | rfl | rfl | rfl | rfl <;> simp at h0 h1 h2 h3 h4 h5 h6 h7 <;> simp [byteOf, *] <;> omega
/-- the byte number j of a list of bits -/
def byteAt (l : List Bool) (j : Nat) : UInt8 := UInt8.ofNat (byteOf fun i => l.getD (8 * j + i) false)
def pack (l : List Bool) : List UInt8 := (List.range ((l.length + 7) / 8)).map (byteAt l)
theorem pack_length (l : List Bool) : (pack l).length = (l.length + 7) / 8 := by simp [pack]
theorem pack_nil : pack [] = [] := rfl
theorem byteAt_toNat (l : List Bool) (j : Nat) : (byteAt l j).toNat = byteOf fun i => l.getD (8 * j + i) false := by
  have := byteOf_lt fun i => l.getD (8 * j + i) false
  simp only [byteAt, UInt8.toNat_ofNat']
  exact Nat.mod_eq_of_lt this

/-- What is there ahead of a bit: a byte more, where the last is full. -/
def roomy (l : List Bool) : List UInt8 := if l.length % 8 = 0 then pack l ++ [0] else pack l
theorem roomy_length (l : List Bool) : (roomy l).length = l.length / 8 + 1 := by
  unfold roomy; split <;> simp [pack_length] <;> omega
theorem roomy_get (l : List Bool) (j : Nat) (h : j < l.length / 8 + 1) : (roomy l)[j]? = some (byteAt l j) := by
  unfold roomy
  split
  · by_cases hj : j < (l.length + 7) / 8
    · rw [List.getElem?_append_left (by rw [pack_length]; exact hj)]
      simp [pack, hj]
    · rw [List.getElem?_append_right (by rw [pack_length]; omega), pack_length, show j - (l.length + 7) / 8 = 0 by omega]
      have : byteAt l j = 0 := by
        apply UInt8.toNat_inj.1
        rw [byteAt_toNat]
        have hz : ∀ i, l.getD (8 * j + i) false = false := fun i => by
          rw [List.getD_eq_getElem?_getD, List.getElem?_eq_none (by omega)]; rfl
        rw [byteOf_congr (g := fun _ => false) fun i _ => hz i]; rfl
      simp [this]
  · have hj : j < (l.length + 7) / 8 := by omega
    simp [pack, hj]

theorem getD_snoc (l : List Bool) (b : Bool) (k : Nat) : (l ++ [b]).getD k false = if k = l.length then b else l.getD k false := by
  simp only [List.getD_eq_getElem?_getD]
  by_cases h : k < l.length
  · rw [List.getElem?_append_left h, if_neg (by omega)]
  · by_cases h2 : k = l.length
    · subst h2; simp
    · rw [if_neg h2, List.getElem?_eq_none (by simp; omega), List.getElem?_eq_none (by omega)]

/-- The byte that the next bit goes into: its lower bits are 0, and the bit is added. -/
theorem byteAt_snoc (l : List Bool) (b : Bool) :
    (byteAt l (l.length / 8)).toNat % 2 ^ (8 - l.length % 8) = 0 ∧ (byteAt (l ++ [b]) (l.length / 8)).toNat = (byteAt l (l.length / 8)).toNat + b.toNat * 2 ^ (7 - l.length % 8) := by
  rw [byteAt_toNat, byteAt_toNat]
  have hz : ∀ i, l.length % 8 ≤ i → l.getD (8 * (l.length / 8) + i) false = false := fun i hi => by
    rw [List.getD_eq_getElem?_getD, List.getElem?_eq_none (by omega)]; rfl
  have hs : ∀ i, (l ++ [b]).getD (8 * (l.length / 8) + i) false = if i = l.length % 8 then b else l.getD (8 * (l.length / 8) + i) false := fun i => by
    rw [getD_snoc]
    by_cases h : i = l.length % 8
    · rw [if_pos h, if_pos (by omega)]
    · rw [if_neg h, if_neg (by omega)]
  rw [byteOf_congr fun i _ => hs i]
  exact byteOf_set _ b _ (Nat.mod_lt _ (by decide)) hz

theorem pack_snoc (l : List Bool) (b : Bool) (x : UInt8) (hx : (roomy l)[l.length / 8]? = some x) :
    pack (l ++ [b]) = (roomy l).set (l.length / 8) (UInt8.ofNat (x.toNat + b.toNat * 2 ^ (7 - l.length % 8))) ∧ x.toNat % 2 ^ (8 - l.length % 8) = 0 ∧ x.toNat + b.toNat * 2 ^ (7 - l.length % 8) < 256 := by
  rw [roomy_get l _ (by omega)] at hx
  cases hx
  obtain ⟨h1, h2⟩ := byteAt_snoc l b
  have hlt := (byteAt (l ++ [b]) (l.length / 8)).toNat_lt
  rw [h2] at hlt
  refine ⟨?_, h1, by omega⟩
  apply List.ext_getElem?
  intro j
  rw [List.getElem?_set]
  by_cases hj : j < l.length / 8 + 1
  · have hp : j < ((l ++ [b]).length + 7) / 8 := by simp; omega
    have e1 : (pack (l ++ [b]))[j]? = some (byteAt (l ++ [b]) j) := by simp only [pack]; rw [List.getElem?_map, List.getElem?_range hp]; rfl
    rw [e1]
    by_cases he : l.length / 8 = j
    · subst he
      rw [if_pos rfl, if_pos (by rw [roomy_length]; omega)]
      congr 1
      apply UInt8.toNat_inj.1
      rw [h2, UInt8.toNat_ofNat']
      exact (Nat.mod_eq_of_lt hlt).symm
    · rw [if_neg he, roomy_get l j hj]
      congr 1
      apply UInt8.toNat_inj.1
      rw [byteAt_toNat, byteAt_toNat]
      exact byteOf_congr fun i hi => by rw [getD_snoc, if_neg (by omega)]
  · rw [List.getElem?_eq_none (by rw [pack_length]; simp; omega), if_neg (by omega), List.getElem?_eq_none (by rw [roomy_length]; omega)]

/-- The lowest bits of n, the highest first. -/
def bitsOf (n : Nat) : Nat → List Bool
  | 0 => []
  | k + 1 => (n / 2 ^ k % 2 == 1) :: bitsOf n k
theorem bitsOf_length (n k : Nat) : (bitsOf n k).length = k := by induction k <;> simp [bitsOf, *]
end Go.Proofs.YtamcclcbmenjdaaGreatDoor.Pl

/- The bit writer: putBit, put, putMark. -/
namespace Go.Proofs.YtamcclcbmenjdaaGreatDoor
open Go.RowKit

/-- What a call leaves that writes the two cells at ⟨pb, po⟩ and the row that lives in block 'own', and makes new blocks. -/
structure Wrote (w w' : World) (pb po : Nat) (own : Option Nat) : Prop where
  os : w'.os = w.os
  tape : w'.tape = w.tape
  output : w'.output = w.output
  size : w.heap.size ≤ w'.heap.size
  block : ∀ k, k < w.heap.size → k ≠ pb → some k ≠ own → w'.heap[k]? = w.heap[k]?
  cells : ∀ o, o ≠ po → o ≠ po + 1 → w'.cell? ⟨pb, o, none⟩ = w.cell? ⟨pb, o, none⟩
  frozen : ∀ o, w'.frozen? ⟨pb, o, none⟩ = w.frozen? ⟨pb, o, none⟩

theorem Wrote.refl (w : World) (pb po : Nat) (own : Option Nat) : Wrote w w pb po own := ⟨rfl, rfl, rfl, Nat.le_refl _, fun _ _ _ _ => rfl, fun _ _ _ => rfl, fun _ => rfl⟩
theorem Wrote.trans {w w1 w2 : World} {pb po : Nat} {v v1 : Value} (h : Wrote w w1 pb po v.ownBlock) (k : Wrote w1 w2 pb po v1.ownBlock) (hh : Heir w v v1) : Wrote w w2 pb po v.ownBlock := by
  refine ⟨k.os.trans h.os, k.tape.trans h.tape, k.output.trans h.output, Nat.le_trans h.size k.size, fun i hi hp hne => ?_, fun o h1 h2 => (k.cells o h1 h2).trans (h.cells o h1 h2), fun o => (k.frozen o).trans (h.frozen o)⟩
  rw [k.block i (Nat.lt_of_lt_of_le hi h.size) hp ?_, h.block i hi hp hne]
  rcases hh with hh | ⟨b, hh, hb⟩
  · rw [hh]; exact hne
  · rw [hh]; intro e; have := Option.some.inj e; omega

/-- A bit writer at ⟨pb, po⟩: its bytes v, of these bits. -/
structure BW (w : World) (pb po : Nat) (v : Value) (bits : List Bool) : Prop where
  c0 : w.cell? ⟨pb, po, none⟩ = some v
  c1 : w.cell? ⟨pb, po + 1, none⟩ = some (.int .i64 bits.length)
  f0 : w.frozen? ⟨pb, po, none⟩ = false
  f1 : w.frozen? ⟨pb, po + 1, none⟩ = false
  bytes : Bytes (pb + 1) w v (Pl.pack bits)

theorem BW.lt {w : World} {pb po : Nat} {v : Value} {bits : List Bool} (h : BW w pb po v bits) : pb < w.heap.size := World.block_lt_of_cell? w _ h.c0
theorem own_ne {base : Nat} {w : World} {v : Value} {xs : List UInt8} {k : Nat} (h : Bytes base w v xs) (hk : k < base) : v.ownBlock ≠ some k := by
  intro e; have := (World.ownsRow.lt h k e).1; omega

/-- A byte joined by 'or' with a bit below its lowest. -/
theorem or_bit (x c m : Nat) (hx : x < 256) (hc : c ≤ 1) (hm : m < 8) (h : x % 2 ^ (8 - m) = 0) (hs : x + c * 2 ^ (7 - m) < 256) :
    bits .or .u8 (x : Int) ((c : Int) * 2 ^ (7 - m) % 256) = ((x + c * 2 ^ (7 - m) : Nat) : Int) := by
  have hp : 2 ^ (7 - m) ≤ 128 := Nat.le_trans (Nat.pow_le_pow_right (by decide) (by omega : 7 - m ≤ 7)) (by decide)
  have hp2 : 2 ^ (8 - m) = 2 * 2 ^ (7 - m) := by rw [show 8 - m = (7 - m) + 1 by omega, Nat.pow_succ, Nat.mul_comm]
  have h0 : 0 < 2 ^ (7 - m) := Nat.two_pow_pos _
  have hle : c * 2 ^ (7 - m) ≤ 2 ^ (7 - m) := by rcases (show c = 0 ∨ c = 1 by omega) with rfl | rfl <;> simp
  have e1 : ((c : Int) * 2 ^ (7 - m) % 256) = ((c * 2 ^ (7 - m) : Nat) : Int) := by
    have : ((c : Int) * 2 ^ (7 - m)) = ((c * 2 ^ (7 - m) : Nat) : Int) := by simp
    rw [this]; omega
  rw [e1]
  have := bits_join .u8 8 (by decide) wraps_u8 (8 - m) x ((c * 2 ^ (7 - m) : Nat) : Int) (by omega) (by exact_mod_cast h) (by omega) (by omega) (by rw [show ((2 : Int) ^ (8 - m)) = ((2 ^ (8 - m) : Nat) : Int) by simp]; omega) (by omega)
  rw [this]; simp

/-- The last store of a bit, and the count: what comes of it. -/
theorem bit_put {pb po g cap n : Nat} {w : World} {bits : List Bool} {c : Nat} {X : Int} (hc : c ≤ 1) (hn : n = bits.length)
    (hown : Bytes (pb + 1) w (.slice (some ⟨g, 0, none⟩) (n / 8 + 1) cap) (Pl.roomy bits))
    (c0 : w.cell? ⟨pb, po, none⟩ = some (.slice (some ⟨g, 0, none⟩) (n / 8 + 1) cap)) (c1 : w.cell? ⟨pb, po + 1, none⟩ = some (.int .i64 n))
    (f0 : w.frozen? ⟨pb, po, none⟩ = false) (f1 : w.frozen? ⟨pb, po + 1, none⟩ = false) (x : UInt8) (hx : (Pl.roomy bits)[n / 8]? = some x)
    (hX : X = ((x.toNat + c * 2 ^ (7 - n % 8) : Nat) : Int)) :
    BW ((w.setCell ⟨g, n / 8, none⟩ (.int .u8 X)).setCell ⟨pb, po + 1, none⟩ (.int .i64 ((n : Int) + 1))).drew pb po (.slice (some ⟨g, 0, none⟩) (n / 8 + 1) cap) (bits ++ [c == 1]) ∧
    Wrote w ((w.setCell ⟨g, n / 8, none⟩ (.int .u8 X)).setCell ⟨pb, po + 1, none⟩ (.int .i64 ((n : Int) + 1))).drew pb po (some g) := by
  subst hn
  have hgp : g ≠ pb := fun e => own_ne hown (Nat.lt_succ_self pb) (by simp [Value.ownBlock, e])
  have hcb : (c == 1).toNat = c := by rcases (show c = 0 ∨ c = 1 by omega) with rfl | rfl <;> rfl
  obtain ⟨hp, _, hlt⟩ := Pl.pack_snoc bits (c == 1) x hx
  rw [hcb] at hp hlt
  have hst := World.ownsRow.stored (by simpa [Bytes, Pl.roomy_length] using hown) (bits.length / 8) (.int .u8 X)
  have hb := ownsRow_setCell_below hst.1 (a := ⟨pb, po + 1, none⟩) (Nat.lt_succ_self pb) (.int .i64 ((bits.length : Int) + 1))
  refine ⟨⟨?_, ?_, by simpa using f0, by simpa using f1, ?_⟩, ⟨rfl, rfl, rfl, by simp, ?_, ?_, by simp⟩⟩
  · show ((w.setCell _ _).setCell _ _).cell? _ = _
    rw [World.cell?_setCell_other _ _ _ _ (fun e => absurd (congrArg Addr.off e) (by simp)), World.cell?_setCell_other _ _ _ _ (fun e => hgp (congrArg Addr.block e))]; exact c0
  · show ((w.setCell _ _).setCell _ _).cell? _ = _
    rw [World.cell?_setCell_same _ _ _ (u := .int .i64 bits.length) (by rw [World.cell?_setCell_other _ _ _ _ (fun e => hgp (congrArg Addr.block e))]; exact c1)]
    simp
  · unfold Bytes
    rw [hp]
    have e : (Pl.Bs (Pl.roomy bits)).set (bits.length / 8) (.int .u8 X) = Pl.Bs ((Pl.roomy bits).set (bits.length / 8) (UInt8.ofNat (x.toNat + c * 2 ^ (7 - bits.length % 8)))) := by
      rw [Pl.Bs, Pl.Bs, List.map_set]; congr 1; simp only [Pl.B]; rw [Pl.u8_ofNat _ hlt, hX]
    rw [e] at hb
    rw [List.length_set, Pl.roomy_length]
    exact hb
  · intro k _ hkp hkg
    show ((w.setCell _ _).setCell _ _).heap[k]? = _
    rw [heap_setCell_other _ _ _ _ (by simpa using hkp), heap_setCell_other _ _ _ _ (by simpa using hkg)]
  · intro o h1 h2
    show ((w.setCell _ _).setCell _ _).cell? _ = _
    rw [World.cell?_setCell_other _ _ _ _ (fun e => h2 (congrArg Addr.off e).symm), World.cell?_setCell_other _ _ _ _ (fun e => hgp (congrArg Addr.block e))]

/-- All that the walk wants to know ahead of the store of a bit, and what comes of it. -/
theorem bit_facts {pb po g cap n : Nat} {w : World} {bits : List Bool} {c : Nat} (hc : c ≤ 1) (hn : n = bits.length)
    (hown : Bytes (pb + 1) w (.slice (some ⟨g, 0, none⟩) (n / 8 + 1) cap) (Pl.roomy bits))
    (c0 : w.cell? ⟨pb, po, none⟩ = some (.slice (some ⟨g, 0, none⟩) (n / 8 + 1) cap)) (c1 : w.cell? ⟨pb, po + 1, none⟩ = some (.int .i64 n))
    (f0 : w.frozen? ⟨pb, po, none⟩ = false) (f1 : w.frozen? ⟨pb, po + 1, none⟩ = false) :
    ∃ x : UInt8, Go.bits .or .u8 (x.toNat : Int) ((c : Int) * 2 ^ (7 - n % 8) % 256) = ((x.toNat + c * 2 ^ (7 - n % 8) : Nat) : Int) ∧
      w.cell? ⟨g, n / 8, none⟩ = some (.int .u8 x.toNat) ∧ w.frozen? ⟨g, n / 8, none⟩ = false ∧
      (∀ u, (w.setCell ⟨g, n / 8, none⟩ u).cell? ⟨pb, po + 1, none⟩ = some (.int .i64 n)) ∧ g ≠ pb ∧
      Hid (BW ((w.setCell ⟨g, n / 8, none⟩ (.int .u8 ((x.toNat : Int) + (c : Int) * 2 ^ (7 - n % 8)))).setCell ⟨pb, po + 1, none⟩ (.int .i64 ((n : Int) + 1))).drew pb po (.slice (some ⟨g, 0, none⟩) (n / 8 + 1) cap) (bits ++ [c == 1]) ∧
        Wrote w ((w.setCell ⟨g, n / 8, none⟩ (.int .u8 ((x.toNat : Int) + (c : Int) * 2 ^ (7 - n % 8)))).setCell ⟨pb, po + 1, none⟩ (.int .i64 ((n : Int) + 1))).drew pb po (some g)) := by
  have hgp : g ≠ pb := fun e => own_ne hown (Nat.lt_succ_self pb) (by simp [Value.ownBlock, e])
  obtain ⟨x, hx⟩ : ∃ x, (Pl.roomy bits)[n / 8]? = some x := ⟨_, List.getElem?_eq_getElem (by rw [Pl.roomy_length]; omega)⟩
  have hps := Pl.pack_snoc bits (c == 1) x (by rw [← hn]; exact hx)
  have hcb : (c == 1).toNat = c := by rcases (show c = 0 ∨ c = 1 by omega) with rfl | rfl <;> rfl
  have hor := or_bit x.toNat c (n % 8) x.toNat_lt hc (by omega) (by rw [hn]; exact hps.2.1) (by rw [hn]; have := hps.2.2; rw [hcb] at this; exact this)
  have fin := bit_put (X := (x.toNat : Int) + (c : Int) * 2 ^ (7 - n % 8)) hc hn hown c0 c1 f0 f1 x hx (by simp)
  refine ⟨x, hor, ?_, World.ownsRow.frozenAt (by simpa [Bytes, Pl.roomy_length, ← hn] using hown) (n / 8), fun u => ?_, hgp, fin⟩
  · rw [World.ownsRow.cellAt (by simpa [Bytes, Pl.roomy_length, ← hn] using hown) (n / 8) (by omega)]
    simp [Pl.Bs, Pl.B, hx]
  · rw [World.cell?_setCell_other _ _ _ _ (fun e => hgp (congrArg Addr.block e))]; exact c1

set_option maxRecDepth 100000 in
set_option maxHeartbeats 400000 in
theorem putBit_mid (pb po g cap n c : Nat) (w : World) (bits : List Bool) (hc : c ≤ 1) (hn : n = bits.length) (hnb : n ≤ 1099511627776) (hm : ¬ n % 8 = 0)
    (hown : Bytes (pb + 1) w (.slice (some ⟨g, 0, none⟩) (n / 8 + 1) cap) (Pl.roomy bits))
    (c0 : w.cell? ⟨pb, po, none⟩ = some (.slice (some ⟨g, 0, none⟩) (n / 8 + 1) cap)) (c1 : w.cell? ⟨pb, po + 1, none⟩ = some (.int .i64 n))
    (f0 : w.frozen? ⟨pb, po, none⟩ = false) (f1 : w.frozen? ⟨pb, po + 1, none⟩ = false) :
    Calls Tryz.prog 186 #[.pointer (some ⟨pb, po, none⟩), .int .u8 c] w fun e w' => e = .returned (.tuple #[]) ∧
      ∃ v', BW w' pb po v' (bits ++ [c == 1]) ∧ Wrote w w' pb po (some g) ∧ v'.ownBlock = some g := by
  obtain ⟨x, hor, hcell, hfr, hc1, hgp, FIN⟩ := bit_facts hc hn hown c0 c1 f0 f1
  have HN := hide hn
  have hb1 : ((n : Int) % 8 == 0) = false := by simp; omega
  have hlt : (n : Int) / 8 < (n / 8 + 1 : Nat) := by omega
  clear hn hown
  go_enter Tryz.func186, Tryz.ntmps186
  go_wp2
  go_region
  go_wp2
  go_end0
  exact ⟨rfl, _, FIN.out.1, FIN.out.2, rfl⟩

/-- Behind an append whose value has been stored into the field. -/
theorem new_row {w w1 : World} {v : Value} {pb po g cap n : Nat} {xs : List UInt8} (hg : w.grownBy w1 v.ownBlock) (hlt : pb < w.heap.size) (hpo : some pb ≠ v.ownBlock)
    (hown : w1.ownsRow (pb + 1) 5 1 (.slice (some ⟨g, 0, none⟩) (n / 8 + 1) cap) (n / 8 + 1) (Pl.Bs xs)) (d0 : w1.cell? ⟨pb, po, none⟩ = some v) :
    Bytes (pb + 1) (w1.setCell ⟨pb, po, none⟩ (.slice (some ⟨g, 0, none⟩) (n / 8 + 1) cap)) (.slice (some ⟨g, 0, none⟩) (n / 8 + 1) cap) xs ∧
    (w1.setCell ⟨pb, po, none⟩ (.slice (some ⟨g, 0, none⟩) (n / 8 + 1) cap)).cell? ⟨pb, po, none⟩ = some (.slice (some ⟨g, 0, none⟩) (n / 8 + 1) cap) ∧
    (w1.setCell ⟨pb, po, none⟩ (.slice (some ⟨g, 0, none⟩) (n / 8 + 1) cap)).cell? ⟨pb, po + 1, none⟩ = w.cell? ⟨pb, po + 1, none⟩ ∧
    (w1.setCell ⟨pb, po, none⟩ (.slice (some ⟨g, 0, none⟩) (n / 8 + 1) cap)).frozen? ⟨pb, po, none⟩ = w.frozen? ⟨pb, po, none⟩ ∧
    (w1.setCell ⟨pb, po, none⟩ (.slice (some ⟨g, 0, none⟩) (n / 8 + 1) cap)).frozen? ⟨pb, po + 1, none⟩ = w.frozen? ⟨pb, po + 1, none⟩ ∧
    Wrote w (w1.setCell ⟨pb, po, none⟩ (.slice (some ⟨g, 0, none⟩) (n / 8 + 1) cap)) pb po v.ownBlock := by
  have hblk := hg.block pb hlt hpo
  have hl : xs.length = n / 8 + 1 := by have := hown.1; simp [Pl.Bs_length] at this; exact this
  refine ⟨?_, World.cell?_setCell_same _ _ _ d0, ?_, ?_, ?_, ⟨hg.os, hg.tape, hg.output, by simpa using hg.size, ?_, ?_, ?_⟩⟩
  · unfold Bytes
    rw [hl]
    exact ownsRow_setCell_below hown (a := ⟨pb, po, none⟩) (Nat.lt_succ_self pb) _
  · rw [World.cell?_setCell_other _ _ _ _ (fun e => absurd (congrArg Addr.off e) (by simp))]; exact World.cell?_of_block (a := ⟨pb, po + 1, none⟩) hblk
  · rw [World.frozen?_setCell]; exact World.frozen?_of_block (a := ⟨pb, po, none⟩) hblk
  · rw [World.frozen?_setCell]; exact World.frozen?_of_block (a := ⟨pb, po + 1, none⟩) hblk
  · intro k hk hkp hko
    rw [heap_setCell_other _ _ _ _ hkp]; exact hg.block k hk hko
  · intro o h1 _
    rw [World.cell?_setCell_other _ _ _ _ (fun e => h1 (congrArg Addr.off e).symm)]; exact World.cell?_of_block (a := ⟨pb, o, none⟩) hblk
  · intro o
    rw [World.frozen?_setCell]; exact World.frozen?_of_block (a := ⟨pb, o, none⟩) hblk

set_option maxRecDepth 100000 in
set_option maxHeartbeats 400000 in
theorem putBit_new (pb po n c : Nat) (v : Value) (w : World) (bits : List Bool) (hc : c ≤ 1) (hn : n = bits.length) (hnb : n ≤ 1099511627776) (hm : n % 8 = 0) (H : BW w pb po v bits) :
    Calls Tryz.prog 186 #[.pointer (some ⟨pb, po, none⟩), .int .u8 c] w fun e w' => e = .returned (.tuple #[]) ∧
      ∃ v', BW w' pb po v' (bits ++ [c == 1]) ∧ Wrote w w' pb po v.ownBlock ∧ Heir w v v' := by
  obtain ⟨i0, hi, hz0, hz1, hz2⟩ := info_parts Tryz.infoU8
  have hlt0 := H.lt
  have c0 := H.c0
  have c1 : w.cell? ⟨pb, po + 1, none⟩ = some (.int .i64 n) := by rw [hn]; exact H.c1
  have hlen : (Pl.pack bits).length ≤ 1099511627776 := by rw [Pl.pack_length]; omega
  have hb1 : ((n : Int) % 8 == 0) = true := by simp; omega
  have HN := hide hn
  have hbs := H.bytes
  have f0 := H.f0
  have f1 := H.f1
  clear hn
  go_enter Tryz.func186, Tryz.ntmps186
  go_wp2_with (first | (at_builtin; refine wpList_append_heir _ rfl (.tmp 14) (.tmp 15) 83 rfl (pb + 1) 5 i0 (.int .u8 0) 1 1 Tryz.underlying83 hi hz0 hz1 hz2 rfl (by decide) _ _ _ rfl (hbs.alloc _) ⟨w.heap.size, 0, none⟩ 1 1 [.int .u8 0] rfl rfl ?c1 ?c2 ?c3 ?c4 ?c5 ?_))
  case c1 => exact cell_one_new _ _ _
  case c2 => exact oneB _
  case c3 => unfold maxLen; omega
  case c4 => omega
  case c5 => simp; omega
  intro v' w1 hown' hgrow hheir
  have hgw := grownBy_alloc_then hgrow
  have hh := hheir.of_alloc
  have hpo : some pb ≠ v.ownBlock := fun e => own_ne hbs (Nat.lt_succ_self pb) e.symm
  have hblk := hgw.block pb hlt0 hpo
  have d0 : w1.cell? ⟨pb, po, none⟩ = some v := (World.cell?_of_block (a := ⟨pb, po, none⟩) hblk).trans c0
  have d1 : w1.cell? ⟨pb, po + 1, none⟩ = some (.int .i64 n) := (World.cell?_of_block (a := ⟨pb, po + 1, none⟩) hblk).trans c1
  have e0 : w1.frozen? ⟨pb, po, none⟩ = false := (World.frozen?_of_block (a := ⟨pb, po, none⟩) hblk).trans f0
  have e1 : w1.frozen? ⟨pb, po + 1, none⟩ = false := (World.frozen?_of_block (a := ⟨pb, po + 1, none⟩) hblk).trans f1
  have hx : ∃ g cap, v' = .slice (some ⟨g, 0, none⟩) ((Pl.pack bits).length + 1) cap ∧ pb + 1 ≤ g := ownsRow_some hown' (by omega)
  obtain ⟨g, cap, hv', hg⟩ := hx
  rw [hv']
  have hrm : Pl.roomy bits = Pl.pack bits ++ [0] := by unfold Pl.roomy; rw [if_pos (by rw [← HN.out]; exact hm)]
  have hL : (Pl.pack bits).length + 1 = n / 8 + 1 := by rw [Pl.pack_length, ← HN.out]; omega
  have N := new_row (w := w) (w1 := w1) (v := v) (pb := pb) (po := po) (g := g) (cap := cap) (n := n) (xs := Pl.roomy bits) hgw hlt0 hpo (by rw [hv', hL] at hown'; rw [hrm, Pl.Bs_append]; exact hown') d0
  rw [hv'] at hh
  rw [hL] at hh ⊢
  clear hown' hgrow hheir hgw hv' hrm hL hblk hbs c0 H
  go_upto_region 2 with fail
  generalize w1.setCell ⟨pb, po, none⟩ (.slice (some ⟨g, 0, none⟩) (n / 8 + 1) cap) = w2 at *
  obtain ⟨hown2, k0, k1, q0, q1, hwr⟩ := N
  rw [c1] at k1
  rw [f0] at q0
  rw [f1] at q1
  obtain ⟨x, hor, hcell, hfr, hc1, hgp, FIN⟩ := bit_facts (w := w2) hc HN.out hown2 k0 k1 q0 q1
  have hlt : (n : Int) / 8 < (n / 8 + 1 : Nat) := by omega
  have WR := hide (hwr.trans (v1 := .slice (some ⟨g, 0, none⟩) (n / 8 + 1) cap) FIN.out.2 hh)
  have BB := hide FIN.out.1
  have HH := hide hh
  clear FIN hwr hown2 d0 d1 e0 e1 c1 f0 f1 hm hh hlen
  go_region
  go_wp2
  go_end0
  exact ⟨rfl, _, BB.out, WR.out, HH.out⟩

theorem pack_roomy {bits : List Bool} (h : ¬ bits.length % 8 = 0) : Pl.roomy bits = Pl.pack bits := by unfold Pl.roomy; rw [if_neg h]

/-- (*bitWriter).putBit: one bit more. -/
theorem putBit_any (pb po c : Nat) (v : Value) (w : World) (bits : List Bool) (hc : c ≤ 1) (hnb : bits.length ≤ 1099511627776) (H : BW w pb po v bits) :
    Calls Tryz.prog 186 #[.pointer (some ⟨pb, po, none⟩), .int .u8 c] w fun e w' => e = .returned (.tuple #[]) ∧
      ∃ v', BW w' pb po v' (bits ++ [c == 1]) ∧ Wrote w w' pb po v.ownBlock ∧ Heir w v v' := by
  by_cases hm : bits.length % 8 = 0
  · exact putBit_new pb po bits.length c v w bits hc rfl hnb hm H
  · have hb := H.bytes
    have hl : (Pl.pack bits).length = bits.length / 8 + 1 := by rw [Pl.pack_length]; omega
    unfold Bytes at hb
    rw [hl] at hb
    obtain ⟨g, cap, rfl, _⟩ := ownsRow_some hb (by omega)
    refine (putBit_mid pb po g cap bits.length c w bits hc rfl hnb hm ?_ H.c0 H.c1 H.f0 H.f1).mono ?_
    · unfold Bytes; rw [Pl.roomy_length, pack_roomy hm]; exact hb
    · rintro e w' ⟨he, v', h1, h2, h3⟩
      exact ⟨he, v', h1, h2, .inl h3⟩
end Go.Proofs.YtamcclcbmenjdaaGreatDoor

/- The bit writer: put, putMark. -/
namespace Go.Proofs.YtamcclcbmenjdaaGreatDoor
open Go.RowKit

theorem and1_shift (n j : Nat) (hn : n < 18446744073709551616) : Go.bits .and .u64 ((n : Int) / 2 ^ j) 1 % 256 = ((n / 2 ^ j % 2 : Nat) : Int) := by
  have h1 : ((n : Int) / 2 ^ j) = ((n / 2 ^ j : Nat) : Int) := by simp
  have hlt : n / 2 ^ j < 18446744073709551616 := Nat.lt_of_le_of_lt (Nat.div_le_self _ _) hn
  have h2 := bits_and_u64_nat (n / 2 ^ j) 1 hlt (by decide)
  rw [h1]
  rw [show ((1 : Nat) : Int) = 1 from rfl] at h2
  rw [h2, Nat.and_one_is_mod]
  omega

set_option maxRecDepth 100000 in
set_option maxHeartbeats 400000 in
theorem put_any (pb po n width : Nat) (v : Value) (w : World) (bits : List Bool) (hn : n < 18446744073709551616) (hwd : width ≤ 64) (hnb : bits.length ≤ 1000000000) (H : BW w pb po v bits) :
    Calls Tryz.prog 156 #[.pointer (some ⟨pb, po, none⟩), .int .u64 n, .int .i64 width] w fun e w' => e = .returned (.tuple #[]) ∧
      ∃ v', BW w' pb po v' (bits ++ Pl.bitsOf n width) ∧ Wrote w w' pb po v.ownBlock ∧ Heir w v v' := by
  go_enter Tryz.func156, Tryz.ntmps156
  go_wp2
  go_loopw [6] (fun i wr => ∃ (k : Nat) (done : List Bool) (v' : Value), k ≤ width ∧ i = .int .i64 ((k : Int) - 1) ∧ done.length + k = width ∧ Hid (done ++ Pl.bitsOf n k = Pl.bitsOf n width) ∧ BW wr pb po v' (bits ++ done) ∧ Wrote w wr pb po v.ownBlock ∧ Heir w v v') (fun i _ => (intOf i + 1).toNat)
  case atStart => exact ⟨width, [], v, Nat.le_refl _, rfl, by simp, rfl, by simpa using H, Wrote.refl _ _ _ _, Heir.refl _ _⟩
  case round =>
    obtain ⟨k, done, v', hk, rfl, hl, HD, hbw, hwr, hh⟩ := hrel
    have HB := hide hbw
    have HW := hide hwr
    have HH := hide hh
    clear hbw hwr hh H
    cases k with
    | zero =>
      go_wp2_with fail
      go_end0
      have e : done = Pl.bitsOf n width := by have := HD.out; simpa [Pl.bitsOf] using this
      exact ⟨rfl, v', by rw [← e]; exact HB.out, HW.out, HH.out⟩
    | succ j =>
      have harg := and1_shift n j hn
      go_wp2_with fail
      rw [harg]
      refine (putBit_any pb po (n / 2 ^ j % 2) v' wr _ (by omega) (by simp; omega) HB.out).mono ?_
      rintro e w' ⟨rfl, v2, hb2, hw2, hh2⟩
      have B2 := hide hb2
      have W2 := hide (HW.out.trans hw2 HH.out)
      have H2 := hide (HH.out.trans hh2 HW.out.size)
      clear hb2 hw2 hh2 HB HW HH harg
      go_wp2
      go_roundw
      case rel => exact ⟨j, done ++ [n / 2 ^ j % 2 == 1], v2, by omega, by go_num, by simp; omega, by show _ = _; rw [← HD.out]; simp [Pl.bitsOf], by rw [← List.append_assoc]; exact B2.out, W2.out, H2.out⟩
      case measure => simp [intOf]

/-- A mark: so many ones, and a zero where it is not the last. -/
def markOf (v last : Nat) : List Bool := List.replicate v true ++ (if v < last then [false] else [])

set_option maxRecDepth 100000 in
set_option maxHeartbeats 400000 in
theorem putMark_any (pb po q last : Nat) (v : Value) (w : World) (bits : List Bool) (hq : q ≤ 4) (hlast : last ≤ 4) (hnb : bits.length ≤ 1000000000) (H : BW w pb po v bits) :
    Calls Tryz.prog 188 #[.pointer (some ⟨pb, po, none⟩), .int .i64 q, .int .i64 last] w fun e w' => e = .returned (.tuple #[]) ∧
      ∃ v', BW w' pb po v' (bits ++ markOf q last) ∧ Wrote w w' pb po v.ownBlock ∧ Heir w v v' := by
  go_enter Tryz.func188, Tryz.ntmps188
  go_wp2
  go_loopw [7] (fun i wr => ∃ (k : Nat) (v' : Value), k ≤ q ∧ i = .int .i64 k ∧ BW wr pb po v' (bits ++ List.replicate k true) ∧ Wrote w wr pb po v.ownBlock ∧ Heir w v v') (fun i _ => q - (intOf i).toNat)
  case atStart => exact ⟨0, v, Nat.zero_le _, rfl, by simpa using H, Wrote.refl _ _ _ _, Heir.refl _ _⟩
  case round =>
    obtain ⟨k, v', hk, rfl, hbw, hwr, hh⟩ := hrel
    have HB := hide hbw
    have HW := hide hwr
    have HH := hide hh
    clear hbw hwr hh H
    by_cases hlt : k < q
    · go_wp2_with fail
      refine (putBit_any pb po 1 v' wr _ (by omega) (by simp; omega) HB.out).mono ?_
      rintro e w' ⟨rfl, v2, hb2, hw2, hh2⟩
      have B2 := hide hb2
      have W2 := hide (HW.out.trans hw2 HH.out)
      have H2 := hide (HH.out.trans hh2 HW.out.size)
      clear hb2 hw2 hh2 HB HW HH
      go_wp2
      go_roundw
      case rel => exact ⟨k + 1, v2, by omega, by go_num, by rw [List.replicate_succ', ← List.append_assoc]; exact B2.out, W2.out, H2.out⟩
      case measure => simp [intOf]; omega
    · obtain rfl : k = q := by omega
      by_cases hl : k < last
      · go_wp2_with fail
        refine (putBit_any pb po 0 v' wr _ (by omega) (by simp; omega) HB.out).mono ?_
        rintro e w' ⟨rfl, v2, hb2, hw2, hh2⟩
        have B2 := hide hb2
        have W2 := hide (HW.out.trans hw2 HH.out)
        have H2 := hide (HH.out.trans hh2 HW.out.size)
        clear hb2 hw2 hh2 HB HW HH
        go_wp2
        go_end0
        exact ⟨rfl, v2, by rw [markOf, if_pos hl, ← List.append_assoc]; exact B2.out, W2.out, H2.out⟩
      · go_wp2_with fail
        go_end0
        exact ⟨rfl, v', by rw [markOf, if_neg hl, List.append_nil]; exact HB.out, HW.out, HH.out⟩
end Go.Proofs.YtamcclcbmenjdaaGreatDoor

/- 'choirkeep.Level', for any list of steps (100 of them are done): when all are up, nothing is under way, and each has told each other one, all have the same, and compacted logs are the same bytes. The first form's statement and its card: no condition beside the row's own. -/
import Derived.Test.YtamcclcbmenjdaaGreatDoorLevelG1
import Derived.Test.YtamcclcbmenjdaaGreatDoorLevelG7
import Derived.BigRegion
import Derived.Deep.RegionLaw
import Derived.Deep.Cut
import Derived.Test.YtamcclcbmenjdaaGreatDoorProg
import Derived.Test.YtamcclcbmenjdaaGreatDoorLevelG6
import Derived.WalkKit
import Derived.WalkSpells
import Derived.WalkLawsBesides
import Derived.Test.YtamcclcbmenjdaaGreatDoorShelf
import Derived.BigQuiet
import Derived.Deep.QuietTactic
/- The bit writer: putBit, put, putMark. -/
namespace Go.Proofs.YtamcclcbmenjdaaGreatDoor
open Go.RowKit

/-- What a call leaves that writes the two cells at ⟨pb, po⟩ and the row that lives in block 'own', and makes new blocks. -/
structure Wrote (w w' : World) (pb po : Nat) (own : Option Nat) : Prop where
  os : w'.os = w.os
  tape : w'.tape = w.tape
  output : w'.output = w.output
  size : w.heap.size ≤ w'.heap.size
  block : ∀ k, k < w.heap.size → k ≠ pb → some k ≠ own → w'.heap[k]? = w.heap[k]?
  cells : ∀ o, o ≠ po → o ≠ po + 1 → w'.cell? ⟨pb, o, none⟩ = w.cell? ⟨pb, o, none⟩
  frozen : ∀ o, w'.frozen? ⟨pb, o, none⟩ = w.frozen? ⟨pb, o, none⟩

theorem Wrote.refl (w : World) (pb po : Nat) (own : Option Nat) : Wrote w w pb po own := ⟨rfl, rfl, rfl, Nat.le_refl _, fun _ _ _ _ => rfl, fun _ _ _ => rfl, fun _ => rfl⟩
theorem Wrote.trans {w w1 w2 : World} {pb po : Nat} {v v1 : Value} (h : Wrote w w1 pb po v.ownBlock) (k : Wrote w1 w2 pb po v1.ownBlock) (hh : Heir w v v1) : Wrote w w2 pb po v.ownBlock := by
  refine ⟨k.os.trans h.os, k.tape.trans h.tape, k.output.trans h.output, Nat.le_trans h.size k.size, fun i hi hp hne => ?_, fun o h1 h2 => (k.cells o h1 h2).trans (h.cells o h1 h2), fun o => (k.frozen o).trans (h.frozen o)⟩
  rw [k.block i (Nat.lt_of_lt_of_le hi h.size) hp ?_, h.block i hi hp hne]
  rcases hh with hh | ⟨b, hh, hb⟩
  · rw [hh]; exact hne
  · rw [hh]; intro e; have := Option.some.inj e; omega

/-- A bit writer at ⟨pb, po⟩: its bytes v, of these bits. -/
structure BW (w : World) (pb po : Nat) (v : Value) (bits : List Bool) : Prop where
  c0 : w.cell? ⟨pb, po, none⟩ = some v
  c1 : w.cell? ⟨pb, po + 1, none⟩ = some (.int .i64 bits.length)
  f0 : w.frozen? ⟨pb, po, none⟩ = false
  f1 : w.frozen? ⟨pb, po + 1, none⟩ = false
  bytes : Bytes (pb + 1) w v (Pl.pack bits)

theorem BW.lt {w : World} {pb po : Nat} {v : Value} {bits : List Bool} (h : BW w pb po v bits) : pb < w.heap.size := World.block_lt_of_cell? w _ h.c0
theorem own_ne {base : Nat} {w : World} {v : Value} {xs : List UInt8} {k : Nat} (h : Bytes base w v xs) (hk : k < base) : v.ownBlock ≠ some k := by
  intro e; have := (World.ownsRow.lt h k e).1; omega

/-- A byte joined by 'or' with a bit below its lowest. -/
theorem or_bit (x c m : Nat) (hx : x < 256) (hc : c ≤ 1) (hm : m < 8) (h : x % 2 ^ (8 - m) = 0) (hs : x + c * 2 ^ (7 - m) < 256) :
    bits .or .u8 (x : Int) ((c : Int) * 2 ^ (7 - m) % 256) = ((x + c * 2 ^ (7 - m) : Nat) : Int) := by
  have hp : 2 ^ (7 - m) ≤ 128 := Nat.le_trans (Nat.pow_le_pow_right (by decide) (by omega : 7 - m ≤ 7)) (by decide)
  have hp2 : 2 ^ (8 - m) = 2 * 2 ^ (7 - m) := by rw [show 8 - m = (7 - m) + 1 by omega, Nat.pow_succ, Nat.mul_comm]
  have h0 : 0 < 2 ^ (7 - m) := Nat.two_pow_pos _
  have hle : c * 2 ^ (7 - m) ≤ 2 ^ (7 - m) := by rcases (show c = 0 ∨ c = 1 by omega) with rfl | rfl <;> simp
  have e1 : ((c : Int) * 2 ^ (7 - m) % 256) = ((c * 2 ^ (7 - m) : Nat) : Int) := by
    have : ((c : Int) * 2 ^ (7 - m)) = ((c * 2 ^ (7 - m) : Nat) : Int) := by simp
    rw [this]; omega
  rw [e1]
  have := bits_join .u8 8 (by decide) wraps_u8 (8 - m) x ((c * 2 ^ (7 - m) : Nat) : Int) (by omega) (by exact_mod_cast h) (by omega) (by omega) (by rw [show ((2 : Int) ^ (8 - m)) = ((2 ^ (8 - m) : Nat) : Int) by simp]; omega) (by omega)
  rw [this]; simp

/-- The last store of a bit, and the count: what comes of it. -/
theorem bit_put {pb po g cap n : Nat} {w : World} {bits : List Bool} {c : Nat} {X : Int} (hc : c ≤ 1) (hn : n = bits.length)
    (hown : Bytes (pb + 1) w (.slice (some ⟨g, 0, none⟩) (n / 8 + 1) cap) (Pl.roomy bits))
    (c0 : w.cell? ⟨pb, po, none⟩ = some (.slice (some ⟨g, 0, none⟩) (n / 8 + 1) cap)) (c1 : w.cell? ⟨pb, po + 1, none⟩ = some (.int .i64 n))
    (f0 : w.frozen? ⟨pb, po, none⟩ = false) (f1 : w.frozen? ⟨pb, po + 1, none⟩ = false) (x : UInt8) (hx : (Pl.roomy bits)[n / 8]? = some x)
    (hX : X = ((x.toNat + c * 2 ^ (7 - n % 8) : Nat) : Int)) :
    BW ((w.setCell ⟨g, n / 8, none⟩ (.int .u8 X)).setCell ⟨pb, po + 1, none⟩ (.int .i64 ((n : Int) + 1))).drew pb po (.slice (some ⟨g, 0, none⟩) (n / 8 + 1) cap) (bits ++ [c == 1]) ∧
    Wrote w ((w.setCell ⟨g, n / 8, none⟩ (.int .u8 X)).setCell ⟨pb, po + 1, none⟩ (.int .i64 ((n : Int) + 1))).drew pb po (some g) := by
  subst hn
  have hgp : g ≠ pb := fun e => own_ne hown (Nat.lt_succ_self pb) (by simp [Value.ownBlock, e])
  have hcb : (c == 1).toNat = c := by rcases (show c = 0 ∨ c = 1 by omega) with rfl | rfl <;> rfl
  obtain ⟨hp, _, hlt⟩ := Pl.pack_snoc bits (c == 1) x hx
  rw [hcb] at hp hlt
  have hst := World.ownsRow.stored (by simpa [Bytes, Pl.roomy_length] using hown) (bits.length / 8) (.int .u8 X)
  have hb := ownsRow_setCell_below hst.1 (a := ⟨pb, po + 1, none⟩) (Nat.lt_succ_self pb) (.int .i64 ((bits.length : Int) + 1))
  refine ⟨⟨?_, ?_, by simpa using f0, by simpa using f1, ?_⟩, ⟨rfl, rfl, rfl, by simp, ?_, ?_, by simp⟩⟩
  · show ((w.setCell _ _).setCell _ _).cell? _ = _
    rw [World.cell?_setCell_other _ _ _ _ (fun e => absurd (congrArg Addr.off e) (by simp)), World.cell?_setCell_other _ _ _ _ (fun e => hgp (congrArg Addr.block e))]; exact c0
  · show ((w.setCell _ _).setCell _ _).cell? _ = _
    rw [World.cell?_setCell_same _ _ _ (u := .int .i64 bits.length) (by rw [World.cell?_setCell_other _ _ _ _ (fun e => hgp (congrArg Addr.block e))]; exact c1)]
    simp
  · unfold Bytes
    rw [hp]
    have e : (Pl.Bs (Pl.roomy bits)).set (bits.length / 8) (.int .u8 X) = Pl.Bs ((Pl.roomy bits).set (bits.length / 8) (UInt8.ofNat (x.toNat + c * 2 ^ (7 - bits.length % 8)))) := by
      rw [Pl.Bs, Pl.Bs, List.map_set]; congr 1; simp only [Pl.B]; rw [Pl.u8_ofNat _ hlt, hX]
    rw [e] at hb
    rw [List.length_set, Pl.roomy_length]
    exact hb
  · intro k _ hkp hkg
    show ((w.setCell _ _).setCell _ _).heap[k]? = _
    rw [heap_setCell_other _ _ _ _ (by simpa using hkp), heap_setCell_other _ _ _ _ (by simpa using hkg)]
  · intro o h1 h2
    show ((w.setCell _ _).setCell _ _).cell? _ = _
    rw [World.cell?_setCell_other _ _ _ _ (fun e => h2 (congrArg Addr.off e).symm), World.cell?_setCell_other _ _ _ _ (fun e => hgp (congrArg Addr.block e))]

/-- All that the walk wants to know ahead of the store of a bit, and what comes of it. -/
theorem bit_facts {pb po g cap n : Nat} {w : World} {bits : List Bool} {c : Nat} (hc : c ≤ 1) (hn : n = bits.length)
    (hown : Bytes (pb + 1) w (.slice (some ⟨g, 0, none⟩) (n / 8 + 1) cap) (Pl.roomy bits))
    (c0 : w.cell? ⟨pb, po, none⟩ = some (.slice (some ⟨g, 0, none⟩) (n / 8 + 1) cap)) (c1 : w.cell? ⟨pb, po + 1, none⟩ = some (.int .i64 n))
    (f0 : w.frozen? ⟨pb, po, none⟩ = false) (f1 : w.frozen? ⟨pb, po + 1, none⟩ = false) :
    ∃ x : UInt8, Go.bits .or .u8 (x.toNat : Int) ((c : Int) * 2 ^ (7 - n % 8) % 256) = ((x.toNat + c * 2 ^ (7 - n % 8) : Nat) : Int) ∧
      w.cell? ⟨g, n / 8, none⟩ = some (.int .u8 x.toNat) ∧ w.frozen? ⟨g, n / 8, none⟩ = false ∧
      (∀ u, (w.setCell ⟨g, n / 8, none⟩ u).cell? ⟨pb, po + 1, none⟩ = some (.int .i64 n)) ∧ g ≠ pb ∧
      Hid (BW ((w.setCell ⟨g, n / 8, none⟩ (.int .u8 ((x.toNat : Int) + (c : Int) * 2 ^ (7 - n % 8)))).setCell ⟨pb, po + 1, none⟩ (.int .i64 ((n : Int) + 1))).drew pb po (.slice (some ⟨g, 0, none⟩) (n / 8 + 1) cap) (bits ++ [c == 1]) ∧
        Wrote w ((w.setCell ⟨g, n / 8, none⟩ (.int .u8 ((x.toNat : Int) + (c : Int) * 2 ^ (7 - n % 8)))).setCell ⟨pb, po + 1, none⟩ (.int .i64 ((n : Int) + 1))).drew pb po (some g)) := by
  have hgp : g ≠ pb := fun e => own_ne hown (Nat.lt_succ_self pb) (by simp [Value.ownBlock, e])
  obtain ⟨x, hx⟩ : ∃ x, (Pl.roomy bits)[n / 8]? = some x := ⟨_, List.getElem?_eq_getElem (by rw [Pl.roomy_length]; omega)⟩
  have hps := Pl.pack_snoc bits (c == 1) x (by rw [← hn]; exact hx)
  have hcb : (c == 1).toNat = c := by rcases (show c = 0 ∨ c = 1 by omega) with rfl | rfl <;> rfl
  have hor := or_bit x.toNat c (n % 8) x.toNat_lt hc (by omega) (by rw [hn]; exact hps.2.1) (by rw [hn]; have := hps.2.2; rw [hcb] at this; exact this)
  have fin := bit_put (X := (x.toNat : Int) + (c : Int) * 2 ^ (7 - n % 8)) hc hn hown c0 c1 f0 f1 x hx (by simp)
  refine ⟨x, hor, ?_, World.ownsRow.frozenAt (by simpa [Bytes, Pl.roomy_length, ← hn] using hown) (n / 8), fun u => ?_, hgp, fin⟩
  · rw [World.ownsRow.cellAt (by simpa [Bytes, Pl.roomy_length, ← hn] using hown) (n / 8) (by omega)]
    simp [Pl.Bs, Pl.B, hx]
  · rw [World.cell?_setCell_other _ _ _ _ (fun e => hgp (congrArg Addr.block e))]; exact c1

set_option maxRecDepth 100000 in
set_option maxHeartbeats 400000 in
theorem putBit_mid (pb po g cap n c : Nat) (w : World) (bits : List Bool) (hc : c ≤ 1) (hn : n = bits.length) (hnb : n ≤ 1099511627776) (hm : ¬ n % 8 = 0)
    (hown : Bytes (pb + 1) w (.slice (some ⟨g, 0, none⟩) (n / 8 + 1) cap) (Pl.roomy bits))
    (c0 : w.cell? ⟨pb, po, none⟩ = some (.slice (some ⟨g, 0, none⟩) (n / 8 + 1) cap)) (c1 : w.cell? ⟨pb, po + 1, none⟩ = some (.int .i64 n))
    (f0 : w.frozen? ⟨pb, po, none⟩ = false) (f1 : w.frozen? ⟨pb, po + 1, none⟩ = false) :
    Calls Tryz.prog 186 #[.pointer (some ⟨pb, po, none⟩), .int .u8 c] w fun e w' => e = .returned (.tuple #[]) ∧
      ∃ v', BW w' pb po v' (bits ++ [c == 1]) ∧ Wrote w w' pb po (some g) ∧ v'.ownBlock = some g := by
  obtain ⟨x, hor, hcell, hfr, hc1, hgp, FIN⟩ := bit_facts hc hn hown c0 c1 f0 f1
  have HN := hide hn
  have hb1 : ((n : Int) % 8 == 0) = false := by simp; omega
  have hlt : (n : Int) / 8 < (n / 8 + 1 : Nat) := by omega
  clear hn hown
  go_enter Tryz.func186, Tryz.ntmps186
  go_wp2
  go_region
  go_wp2
  go_end0
  exact ⟨rfl, _, FIN.out.1, FIN.out.2, rfl⟩

/-- Behind an append whose value has been stored into the field. -/
theorem new_row {w w1 : World} {v : Value} {pb po g cap n : Nat} {xs : List UInt8} (hg : w.grownBy w1 v.ownBlock) (hlt : pb < w.heap.size) (hpo : some pb ≠ v.ownBlock)
    (hown : w1.ownsRow (pb + 1) 5 1 (.slice (some ⟨g, 0, none⟩) (n / 8 + 1) cap) (n / 8 + 1) (Pl.Bs xs)) (d0 : w1.cell? ⟨pb, po, none⟩ = some v) :
    Bytes (pb + 1) (w1.setCell ⟨pb, po, none⟩ (.slice (some ⟨g, 0, none⟩) (n / 8 + 1) cap)) (.slice (some ⟨g, 0, none⟩) (n / 8 + 1) cap) xs ∧
    (w1.setCell ⟨pb, po, none⟩ (.slice (some ⟨g, 0, none⟩) (n / 8 + 1) cap)).cell? ⟨pb, po, none⟩ = some (.slice (some ⟨g, 0, none⟩) (n / 8 + 1) cap) ∧
    (w1.setCell ⟨pb, po, none⟩ (.slice (some ⟨g, 0, none⟩) (n / 8 + 1) cap)).cell? ⟨pb, po + 1, none⟩ = w.cell? ⟨pb, po + 1, none⟩ ∧
    (w1.setCell ⟨pb, po, none⟩ (.slice (some ⟨g, 0, none⟩) (n / 8 + 1) cap)).frozen? ⟨pb, po, none⟩ = w.frozen? ⟨pb, po, none⟩ ∧
    (w1.setCell ⟨pb, po, none⟩ (.slice (some ⟨g, 0, none⟩) (n / 8 + 1) cap)).frozen? ⟨pb, po + 1, none⟩ = w.frozen? ⟨pb, po + 1, none⟩ ∧
    Wrote w (w1.setCell ⟨pb, po, none⟩ (.slice (some ⟨g, 0, none⟩) (n / 8 + 1) cap)) pb po v.ownBlock := by
  have hblk := hg.block pb hlt hpo
  have hl : xs.length = n / 8 + 1 := by have := hown.1; simp [Pl.Bs_length] at this; exact this
  refine ⟨?_, World.cell?_setCell_same _ _ _ d0, ?_, ?_, ?_, ⟨hg.os, hg.tape, hg.output, by simpa using hg.size, ?_, ?_, ?_⟩⟩
  · unfold Bytes
    rw [hl]
    exact ownsRow_setCell_below hown (a := ⟨pb, po, none⟩) (Nat.lt_succ_self pb) _
  · rw [World.cell?_setCell_other _ _ _ _ (fun e => absurd (congrArg Addr.off e) (by simp))]; exact World.cell?_of_block (a := ⟨pb, po + 1, none⟩) hblk
  · rw [World.frozen?_setCell]; exact World.frozen?_of_block (a := ⟨pb, po, none⟩) hblk
  · rw [World.frozen?_setCell]; exact World.frozen?_of_block (a := ⟨pb, po + 1, none⟩) hblk
  · intro k hk hkp hko
    rw [heap_setCell_other _ _ _ _ hkp]; exact hg.block k hk hko
  · intro o h1 _
    rw [World.cell?_setCell_other _ _ _ _ (fun e => h1 (congrArg Addr.off e).symm)]; exact World.cell?_of_block (a := ⟨pb, o, none⟩) hblk
  · intro o
    rw [World.frozen?_setCell]; exact World.frozen?_of_block (a := ⟨pb, o, none⟩) hblk

set_option maxRecDepth 100000 in
set_option maxHeartbeats 400000 in
theorem putBit_new (pb po n c : Nat) (v : Value) (w : World) (bits : List Bool) (hc : c ≤ 1) (hn : n = bits.length) (hnb : n ≤ 1099511627776) (hm : n % 8 = 0) (H : BW w pb po v bits) :
    Calls Tryz.prog 186 #[.pointer (some ⟨pb, po, none⟩), .int .u8 c] w fun e w' => e = .returned (.tuple #[]) ∧
      ∃ v', BW w' pb po v' (bits ++ [c == 1]) ∧ Wrote w w' pb po v.ownBlock ∧ Heir w v v' := by
  obtain ⟨i0, hi, hz0, hz1, hz2⟩ := info_parts Tryz.infoU8
  have hlt0 := H.lt
  have c0 := H.c0
  have c1 : w.cell? ⟨pb, po + 1, none⟩ = some (.int .i64 n) := by rw [hn]; exact H.c1
  have hlen : (Pl.pack bits).length ≤ 1099511627776 := by rw [Pl.pack_length]; omega
  have hb1 : ((n : Int) % 8 == 0) = true := by simp; omega
  have HN := hide hn
  have hbs := H.bytes
  have f0 := H.f0
  have f1 := H.f1
  clear hn
  go_enter Tryz.func186, Tryz.ntmps186
  go_wp2_with (first | (at_builtin; refine wpList_append_heir _ rfl (.tmp 14) (.tmp 15) 83 rfl (pb + 1) 5 i0 (.int .u8 0) 1 1 Tryz.underlying83 hi hz0 hz1 hz2 rfl (by decide) _ _ _ rfl (hbs.alloc _) ⟨w.heap.size, 0, none⟩ 1 1 [.int .u8 0] rfl rfl ?c1 ?c2 ?c3 ?c4 ?c5 ?_))
  case c1 => exact cell_one_new _ _ _
  case c2 => exact oneB _
  case c3 => unfold maxLen; omega
  case c4 => omega
  case c5 => simp; omega
  intro v' w1 hown' hgrow hheir
  have hgw := grownBy_alloc_then hgrow
  have hh := hheir.of_alloc
  have hpo : some pb ≠ v.ownBlock := fun e => own_ne hbs (Nat.lt_succ_self pb) e.symm
  have hblk := hgw.block pb hlt0 hpo
  have d0 : w1.cell? ⟨pb, po, none⟩ = some v := (World.cell?_of_block (a := ⟨pb, po, none⟩) hblk).trans c0
  have d1 : w1.cell? ⟨pb, po + 1, none⟩ = some (.int .i64 n) := (World.cell?_of_block (a := ⟨pb, po + 1, none⟩) hblk).trans c1
  have e0 : w1.frozen? ⟨pb, po, none⟩ = false := (World.frozen?_of_block (a := ⟨pb, po, none⟩) hblk).trans f0
  have e1 : w1.frozen? ⟨pb, po + 1, none⟩ = false := (World.frozen?_of_block (a := ⟨pb, po + 1, none⟩) hblk).trans f1
  have hx : ∃ g cap, v' = .slice (some ⟨g, 0, none⟩) ((Pl.pack bits).length + 1) cap ∧ pb + 1 ≤ g := ownsRow_some hown' (by omega)
  obtain ⟨g, cap, hv', hg⟩ := hx
  rw [hv']
  have hrm : Pl.roomy bits = Pl.pack bits ++ [0] := by unfold Pl.roomy; rw [if_pos (by rw [← HN.out]; exact hm)]
  have hL : (Pl.pack bits).length + 1 = n / 8 + 1 := by rw [Pl.pack_length, ← HN.out]; omega
  have N := new_row (w := w) (w1 := w1) (v := v) (pb := pb) (po := po) (g := g) (cap := cap) (n := n) (xs := Pl.roomy bits) hgw hlt0 hpo (by rw [hv', hL] at hown'; rw [hrm, Pl.Bs_append]; exact hown') d0
  rw [hv'] at hh
  rw [hL] at hh ⊢
  clear hown' hgrow hheir hgw hv' hrm hL hblk hbs c0 H
  go_upto_region 2 with fail
  generalize w1.setCell ⟨pb, po, none⟩ (.slice (some ⟨g, 0, none⟩) (n / 8 + 1) cap) = w2 at *
  obtain ⟨hown2, k0, k1, q0, q1, hwr⟩ := N
  rw [c1] at k1
  rw [f0] at q0
  rw [f1] at q1
  obtain ⟨x, hor, hcell, hfr, hc1, hgp, FIN⟩ := bit_facts (w := w2) hc HN.out hown2 k0 k1 q0 q1
  have hlt : (n : Int) / 8 < (n / 8 + 1 : Nat) := by omega
  have WR := hide (hwr.trans (v1 := .slice (some ⟨g, 0, none⟩) (n / 8 + 1) cap) FIN.out.2 hh)
  have BB := hide FIN.out.1
  have HH := hide hh
  clear FIN hwr hown2 d0 d1 e0 e1 c1 f0 f1 hm hh hlen
  go_region
  go_wp2
  go_end0
  exact ⟨rfl, _, BB.out, WR.out, HH.out⟩

theorem pack_roomy {bits : List Bool} (h : ¬ bits.length % 8 = 0) : Pl.roomy bits = Pl.pack bits := by unfold Pl.roomy; rw [if_neg h]

/-- (*bitWriter).putBit: one bit more. -/
theorem putBit_any (pb po c : Nat) (v : Value) (w : World) (bits : List Bool) (hc : c ≤ 1) (hnb : bits.length ≤ 1099511627776) (H : BW w pb po v bits) :
    Calls Tryz.prog 186 #[.pointer (some ⟨pb, po, none⟩), .int .u8 c] w fun e w' => e = .returned (.tuple #[]) ∧
      ∃ v', BW w' pb po v' (bits ++ [c == 1]) ∧ Wrote w w' pb po v.ownBlock ∧ Heir w v v' := by
  by_cases hm : bits.length % 8 = 0
  · exact putBit_new pb po bits.length c v w bits hc rfl hnb hm H
  · have hb := H.bytes
    have hl : (Pl.pack bits).length = bits.length / 8 + 1 := by rw [Pl.pack_length]; omega
    unfold Bytes at hb
    rw [hl] at hb
    obtain ⟨g, cap, rfl, _⟩ := ownsRow_some hb (by omega)
    refine (putBit_mid pb po g cap bits.length c w bits hc rfl hnb hm ?_ H.c0 H.c1 H.f0 H.f1).mono ?_
    · unfold Bytes; rw [Pl.roomy_length, pack_roomy hm]; exact hb
    · rintro e w' ⟨he, v', h1, h2, h3⟩
      exact ⟨he, v', h1, h2, .inl h3⟩
end Go.Proofs.YtamcclcbmenjdaaGreatDoor

/- The bit writer: put, putMark. -/
namespace Go.Proofs.YtamcclcbmenjdaaGreatDoor
open Go.RowKit

theorem and1_shift (n j : Nat) (hn : n < 18446744073709551616) : Go.bits .and .u64 ((n : Int) / 2 ^ j) 1 % 256 = ((n / 2 ^ j % 2 : Nat) : Int) := by
  have h1 : ((n : Int) / 2 ^ j) = ((n / 2 ^ j : Nat) : Int) := by simp
  have hlt : n / 2 ^ j < 18446744073709551616 := Nat.lt_of_le_of_lt (Nat.div_le_self _ _) hn
  have h2 := bits_and_u64_nat (n / 2 ^ j) 1 hlt (by decide)
  rw [h1]
  rw [show ((1 : Nat) : Int) = 1 from rfl] at h2
  rw [h2, Nat.and_one_is_mod]
  omega

set_option maxRecDepth 100000 in
set_option maxHeartbeats 400000 in
theorem put_any (pb po n width : Nat) (v : Value) (w : World) (bits : List Bool) (hn : n < 18446744073709551616) (hwd : width ≤ 64) (hnb : bits.length ≤ 1000000000) (H : BW w pb po v bits) :
    Calls Tryz.prog 156 #[.pointer (some ⟨pb, po, none⟩), .int .u64 n, .int .i64 width] w fun e w' => e = .returned (.tuple #[]) ∧
      ∃ v', BW w' pb po v' (bits ++ Pl.bitsOf n width) ∧ Wrote w w' pb po v.ownBlock ∧ Heir w v v' := by
  go_enter Tryz.func156, Tryz.ntmps156
  go_wp2
  go_loopw [6] (fun i wr => ∃ (k : Nat) (done : List Bool) (v' : Value), k ≤ width ∧ i = .int .i64 ((k : Int) - 1) ∧ done.length + k = width ∧ Hid (done ++ Pl.bitsOf n k = Pl.bitsOf n width) ∧ BW wr pb po v' (bits ++ done) ∧ Wrote w wr pb po v.ownBlock ∧ Heir w v v') (fun i _ => (intOf i + 1).toNat)
  case atStart => exact ⟨width, [], v, Nat.le_refl _, rfl, by simp, rfl, by simpa using H, Wrote.refl _ _ _ _, Heir.refl _ _⟩
  case round =>
    obtain ⟨k, done, v', hk, rfl, hl, HD, hbw, hwr, hh⟩ := hrel
    have HB := hide hbw
    have HW := hide hwr
    have HH := hide hh
    clear hbw hwr hh H
    cases k with
    | zero =>
      go_wp2_with fail
      go_end0
      have e : done = Pl.bitsOf n width := by have := HD.out; simpa [Pl.bitsOf] using this
      exact ⟨rfl, v', by rw [← e]; exact HB.out, HW.out, HH.out⟩
    | succ j =>
      have harg := and1_shift n j hn
      go_wp2_with fail
      rw [harg]
      refine (putBit_any pb po (n / 2 ^ j % 2) v' wr _ (by omega) (by simp; omega) HB.out).mono ?_
      rintro e w' ⟨rfl, v2, hb2, hw2, hh2⟩
      have B2 := hide hb2
      have W2 := hide (HW.out.trans hw2 HH.out)
      have H2 := hide (HH.out.trans hh2 HW.out.size)
      clear hb2 hw2 hh2 HB HW HH harg
      go_wp2
      go_roundw
      case rel => exact ⟨j, done ++ [n / 2 ^ j % 2 == 1], v2, by omega, by go_num, by simp; omega, by show _ = _; rw [← HD.out]; simp [Pl.bitsOf], by rw [← List.append_assoc]; exact B2.out, W2.out, H2.out⟩
      case measure => simp [intOf]

/-- A mark: so many ones, and a zero where it is not the last. -/
def markOf (v last : Nat) : List Bool := List.replicate v true ++ (if v < last then [false] else [])

set_option maxRecDepth 100000 in
set_option maxHeartbeats 400000 in
theorem putMark_any (pb po q last : Nat) (v : Value) (w : World) (bits : List Bool) (hq : q ≤ 4) (hlast : last ≤ 4) (hnb : bits.length ≤ 1000000000) (H : BW w pb po v bits) :
    Calls Tryz.prog 188 #[.pointer (some ⟨pb, po, none⟩), .int .i64 q, .int .i64 last] w fun e w' => e = .returned (.tuple #[]) ∧
      ∃ v', BW w' pb po v' (bits ++ markOf q last) ∧ Wrote w w' pb po v.ownBlock ∧ Heir w v v' := by
  go_enter Tryz.func188, Tryz.ntmps188
  go_wp2
  go_loopw [7] (fun i wr => ∃ (k : Nat) (v' : Value), k ≤ q ∧ i = .int .i64 k ∧ BW wr pb po v' (bits ++ List.replicate k true) ∧ Wrote w wr pb po v.ownBlock ∧ Heir w v v') (fun i _ => q - (intOf i).toNat)
  case atStart => exact ⟨0, v, Nat.zero_le _, rfl, by simpa using H, Wrote.refl _ _ _ _, Heir.refl _ _⟩
  case round =>
    obtain ⟨k, v', hk, rfl, hbw, hwr, hh⟩ := hrel
    have HB := hide hbw
    have HW := hide hwr
    have HH := hide hh
    clear hbw hwr hh H
    by_cases hlt : k < q
    · go_wp2_with fail
      refine (putBit_any pb po 1 v' wr _ (by omega) (by simp; omega) HB.out).mono ?_
      rintro e w' ⟨rfl, v2, hb2, hw2, hh2⟩
      have B2 := hide hb2
      have W2 := hide (HW.out.trans hw2 HH.out)
      have H2 := hide (HH.out.trans hh2 HW.out.size)
      clear hb2 hw2 hh2 HB HW HH
      go_wp2
      go_roundw
      case rel => exact ⟨k + 1, v2, by omega, by go_num, by rw [List.replicate_succ', ← List.append_assoc]; exact B2.out, W2.out, H2.out⟩
      case measure => simp [intOf]; omega
    · obtain rfl : k = q := by omega
      by_cases hl : k < last
      · go_wp2_with fail
        refine (putBit_any pb po 0 v' wr _ (by omega) (by simp; omega) HB.out).mono ?_
        rintro e w' ⟨rfl, v2, hb2, hw2, hh2⟩
        have B2 := hide hb2
        have W2 := hide (HW.out.trans hw2 HH.out)
        have H2 := hide (HH.out.trans hh2 HW.out.size)
        clear hb2 hw2 hh2 HB HW HH
        go_wp2
        go_end0
        exact ⟨rfl, v2, by rw [markOf, if_pos hl, ← List.append_assoc]; exact B2.out, W2.out, H2.out⟩
      · go_wp2_with fail
        go_end0
        exact ⟨rfl, v', by rw [markOf, if_neg hl, List.append_nil]; exact HB.out, HW.out, HH.out⟩
end Go.Proofs.YtamcclcbmenjdaaGreatDoor

/- The sum: the contract of frame.sum. -/
namespace Go.Proofs.YtamcclcbmenjdaaGreatDoor
open Go.RowKit

theorem val_int {k : IntKind} {a b : Int} (h : a = b) : Value.int k a = .int k b := by rw [h]
theorem take_snoc (s : ByteArray) (k : Nat) (h : k < s.size) : s.data.toList.take (k + 1) = s.data.toList.take k ++ [s[k]] := by
  rw [List.take_succ_eq_append_getElem (by simpa using h)]; rfl

set_option maxHeartbeats 400000 in
theorem sum_any (s : ByteArray) (w : World) (hs : s.size ≤ maxLen) :
    Calls Tryz.prog 119 #[.string s] w fun e w' => e = .returned (.int .u32 (Pl.crc s.data.toList)) ∧ w' = w := by
  unfold maxLen at hs
  go_enter Tryz.func119, Tryz.ntmps119
  go_wp2
  go_loop [3, 8] (fun n j => ∃ (k x : Nat), k ≤ s.size ∧ j = .int .i64 k ∧ n = .int .u32 x ∧ x < 2 ^ 32 ∧ Hid (x = Pl.crcAll 4294967295 (s.data.toList.take k))) (fun _ j => s.size - (intOf j).toNat)
  case atStart => exact ⟨0, 4294967295, by omega, rfl, rfl, by decide, rfl⟩
  case round =>
    obtain ⟨k, x, hk, rfl, rfl, hx, HX⟩ := hrel
    by_cases hlt : k < s.size
    · have hb : s[k].toNat < 256 := s[k].toNat_lt
      have hbx : bits .xor .u32 (x : Int) (s[k].toNat : Int) = ((x ^^^ s[k].toNat : Nat) : Int) := Pl.bits_xor_u32_nat _ _ hx (by omega)
      have hy : x ^^^ s[k].toNat < 2 ^ 32 := Nat.xor_lt_two_pow hx (by omega)
      have HY : Hid (Pl.crcIt 8 (x ^^^ s[k].toNat) = Pl.crcAll 4294967295 (s.data.toList.take (k + 1))) := by
        show Pl.crcByte x s[k] = _
        rw [take_snoc s k hlt, Pl.crcAll_snoc, ← HX.out]
      clear HX
      generalize x ^^^ s[k].toNat = y at *
      go_wp2
      go_loop [3, 5, 17] (fun n odd l => ∃ (i z : Nat), i ≤ 8 ∧ l = .int .i64 i ∧ n = .int .u32 z ∧ z < 2 ^ 32 ∧ Hid (z = Pl.crcIt i y)) (fun _ _ l => 8 - (intOf l).toNat)
      case atStart => exact ⟨0, y, by omega, rfl, rfl, hy, rfl⟩
      case round =>
        obtain ⟨i, z, hi, rfl, rfl, hz, HZ⟩ := hrel
        have hand := Pl.bits_and1_u32 z hz
        by_cases hil : i < 8
        · by_cases hodd : z % 2 = 1
          · have ht : ((z % 2 : Nat) : Int) = 1 := by omega
            have HN : Hid (Pl.crcBit z = (z / 2) ^^^ 2197175160) := by show Pl.crcBit z = _; rw [Pl.crcBit, if_pos hodd]
            have hx2 : bits .xor .u32 ((z : Int) / 2) 2197175160 = (((z / 2) ^^^ 2197175160 : Nat) : Int) := by
              have := Pl.bits_xor_u32_nat (z / 2) 2197175160 (by omega) (by decide)
              simpa using this
            go_wp2
            go_round
            case rel => exact ⟨i + 1, _, by omega, by go_num, rfl, Nat.xor_lt_two_pow (by omega) (by decide), by show _ = Pl.crcBit (Pl.crcIt i y); rw [← HZ.out]; exact HN.out.symm⟩
            case measure => simp [intOf]; omega
          · have ht : ((z % 2 : Nat) : Int) = 0 := by omega
            go_wp2
            go_round
            case rel => exact ⟨i + 1, z / 2, by omega, by go_num, by go_num, by omega, by show _ = Pl.crcBit (Pl.crcIt i y); rw [← HZ.out, Pl.crcBit, if_neg hodd]⟩
            case measure => simp [intOf]; omega
        · obtain rfl : i = 8 := by omega
          go_wp2
          go_round
          case rel => exact ⟨k + 1, z, by omega, by go_num, rfl, hz, by show z = _; rw [HZ.out]; exact HY.out⟩
          case measure => simp [intOf]; omega
    · go_wp2
      go_ret
      obtain rfl : k = s.size := by omega
      have h1 : x = Pl.crcAll 4294967295 s.data.toList := by rw [HX.out, List.take_of_length_le (by simp)]
      exact ⟨ret_int (by rw [Pl.crc, ← h1, show IntKind.u32.max = ((4294967295 : Nat) : Int) by decide, Pl.bits_xor_u32_nat _ _ (by decide) hx, Nat.xor_comm]), rfl⟩
end Go.Proofs.YtamcclcbmenjdaaGreatDoor

/- The tables, the library's bit functions, and the window's methods. -/
namespace Go.Proofs.YtamcclcbmenjdaaGreatDoor
open Go.RowKit

/-- What the package variables hold: the ways of a step, and the library's table. -/
structure Tabs (w : World) : Prop where
  s0 : w.cell? ⟨0, 0, none⟩ = some (.int .i64 0)
  s1 : w.cell? ⟨0, 1, none⟩ = some (.int .u64 0)
  s2 : w.cell? ⟨0, 2, none⟩ = some (.int .i64 7)
  s3 : w.cell? ⟨0, 3, none⟩ = some (.int .u64 63)
  s4 : w.cell? ⟨0, 4, none⟩ = some (.int .i64 9)
  s5 : w.cell? ⟨0, 5, none⟩ = some (.int .u64 255)
  s6 : w.cell? ⟨0, 6, none⟩ = some (.int .i64 12)
  s7 : w.cell? ⟨0, 7, none⟩ = some (.int .u64 2047)
  s8 : w.cell? ⟨0, 8, none⟩ = some (.int .i64 64)
  s9 : w.cell? ⟨0, 9, none⟩ = some (.int .u64 0)
  tz : TabAt 2 Lib.deBruijn64tab w

theorem Tabs.lt {w : World} (h : Tabs w) : 2 < w.heap.size := by
  have := World.block_lt_of_cell? w _ (h.tz 0 (by decide)); exact this
theorem Tabs.kept {w w' : World} (h : Tabs w) (h0 : w'.heap[0]? = w.heap[0]?) (h2 : w'.heap[2]? = w.heap[2]?) : Tabs w' := by
  have e : ∀ o, w'.cell? ⟨0, o, none⟩ = w.cell? ⟨0, o, none⟩ := fun o => World.cell?_of_block (a := ⟨0, o, none⟩) h0
  exact ⟨(e 0).trans h.s0, (e 1).trans h.s1, (e 2).trans h.s2, (e 3).trans h.s3, (e 4).trans h.s4, (e 5).trans h.s5, (e 6).trans h.s6, (e 7).trans h.s7, (e 8).trans h.s8, (e 9).trans h.s9,
    fun j hj => (World.cell?_of_block (a := ⟨2, j, none⟩) h2).trans (h.tz j hj)⟩
theorem Tabs.below {w w' : World} {B : Nat} (h : Tabs w) (hb : Below B w w') (hB : 3 ≤ B) : Tabs w' := h.kept (hb.block _ (by omega)) (hb.block _ (by omega))
theorem Tabs.alloc {w : World} (h : Tabs w) (o : Obj) : Tabs (w.alloc o) := h.below (B := w.heap.size) ((Below.refl _ _).alloc (Nat.le_refl _) o) (by have := h.lt; omega)
theorem Tabs.drew {w : World} (h : Tabs w) : Tabs w.drew := h.kept rfl rfl
theorem Tabs.wrote {w w' : World} {pb po : Nat} {v : Value} {xs : List UInt8} (h : Tabs w) (hw : Wrote w w' pb po v.ownBlock) (hb : Bytes (pb + 1) w v xs) (hp : 3 ≤ pb) : Tabs w' := by
  have hl := h.lt
  exact h.kept (hw.block _ (by omega) (by omega) (fun e => own_ne hb (by omega) e.symm)) (hw.block _ (by omega) (by omega) (fun e => own_ne hb (by omega) e.symm))

/-- How many zero bits are ahead, and behind, in 64. -/
def lz (x : Nat) : Nat := 64 - Lib.bitLen x
def tz (x : Nat) : Nat := Lib.ctz 64 x
theorem bitLenAux_le (f x : Nat) : Lib.bitLenAux f x ≤ f := by
  induction f generalizing x with
  | zero => simp [Lib.bitLenAux]
  | succ f ih => unfold Lib.bitLenAux; split <;> have := ih (x / 2) <;> omega
theorem lz_any (x : Nat) (w : World) (hx : x ≤ 18446744073709551615) :
    Calls Tryz.prog 206 #[.int .u64 x] w fun e w' => e = .returned (.int .i64 (lz x)) ∧ w' = w := by
  refine (Tryz.bits_LeadingZeros64 x w (by omega) (by omega)).mono ?_
  rintro e w' ⟨rfl, rfl⟩
  have : Lib.bitLen x ≤ 64 := bitLenAux_le 64 x
  exact ⟨ret_int (by simp [lz]; omega), rfl⟩
theorem tz_any (x : Nat) (w : World) (hx : x ≤ 18446744073709551615) (ht : Tabs w) :
    Calls Tryz.prog 207 #[.int .u64 x] w fun e w' => e = .returned (.int .i64 (tz x)) ∧ w' = w :=
  Any7.bits_TrailingZeros64 Tryz.laysTz x (by omega) w (fun _ => ht.tz)

set_option maxHeartbeats 400000 in
theorem behind_any (a s : Nat) (w : World) (ha : a ≤ 64) (hs : s ≤ 64) :
    Calls Tryz.prog 173 #[.agg #[.int .i64 a, .int .i64 s]] w fun e w' => e = .returned (.int .i64 (64 - (a : Int) - s)) ∧ w' = w.alloc (.cells #[.int .i64 a, .int .i64 s] 212) := by
  go_enter Tryz.func173, Tryz.ntmps173
  go_wp2
  go_ret
  exact ⟨rfl, rfl⟩

/-- Does a window of s bits behind a hold all bits of x that are 1? -/
def holdsB (a s x : Nat) : Bool := decide (0 < s) && (decide (a ≤ lz x) && decide (64 - (a : Int) - s ≤ tz x))

set_option maxRecDepth 100000 in
set_option maxHeartbeats 400000 in
theorem holds_yes (a s x : Nat) (w : World) (ha : a ≤ 64) (hs : s ≤ 64) (hx : x ≤ 18446744073709551615) (ht : Tabs w) (h1 : 0 < s) (h2 : a ≤ lz x) :
    Calls Tryz.prog 205 #[.agg #[.int .i64 a, .int .i64 s], .int .u64 x] w fun e w' => e = .returned (.bool (decide (64 - (a : Int) - s ≤ tz x))) ∧ Below w.heap.size w w' := by
  have g1 : (0 : Int) < s := by omega
  have g2 : (a : Int) ≤ (lz x : Int) := by omega
  have ht2 := fun o => ht.alloc o
  have HT := hide ht2
  clear ht ht2
  go_enter Tryz.func205, Tryz.ntmps205
  go_wp2
  go_region_with (first | (go_at_call 206; refine (lz_any _ _ hx).mono ?_; rintro e w' ⟨rfl, rfl⟩) | (go_at_call 207; refine (tz_any _ _ hx (by exact (HT.out _).drew)).mono ?_; rintro e w' ⟨rfl, rfl⟩) | (go_at_call 173; refine (behind_any _ _ _ ha hs).mono ?_; rintro e w' ⟨rfl, rfl⟩))
  all_goals (go_wp2; go_ret; exact ⟨rfl, (((Below.refl _ _).alloc (Nat.le_refl _) _).alloc (by simp) _).drew⟩)

set_option maxRecDepth 100000 in
set_option maxHeartbeats 400000 in
theorem holds_far (a s x : Nat) (w : World) (hx : x ≤ 18446744073709551615) (h1 : 0 < s) (h2 : ¬ a ≤ lz x) :
    Calls Tryz.prog 205 #[.agg #[.int .i64 a, .int .i64 s], .int .u64 x] w fun e w' => e = .returned (.bool false) ∧ Below w.heap.size w w' := by
  have g1 : (0 : Int) < s := by omega
  have g2 : decide ((a : Int) ≤ (lz x : Int)) = false := by simp; omega
  go_enter Tryz.func205, Tryz.ntmps205
  go_wp2
  go_quiet ((go_at_call 206; exact Calls.quiet_of_same (lz_any _ _ hx)))
  go_wp2
  go_ret
  exact ⟨rfl, below_drewN ((Below.refl _ _).alloc (Nat.le_refl _) _) _⟩

set_option maxRecDepth 100000 in
set_option maxHeartbeats 400000 in
theorem holds_none (a x : Nat) (w : World) :
    Calls Tryz.prog 205 #[.agg #[.int .i64 a, .int .i64 0], .int .u64 x] w fun e w' => e = .returned (.bool false) ∧ Below w.heap.size w w' := by
  go_enter Tryz.func205, Tryz.ntmps205
  go_wp2
  go_quiet (fail)
  go_wp2
  go_ret
  exact ⟨rfl, below_drewN ((Below.refl _ _).alloc (Nat.le_refl _) _) _⟩

theorem holds_any (a s x : Nat) (w : World) (ha : a ≤ 64) (hs : s ≤ 64) (hx : x ≤ 18446744073709551615) (ht : Tabs w) :
    Calls Tryz.prog 205 #[.agg #[.int .i64 a, .int .i64 s], .int .u64 x] w fun e w' => e = .returned (.bool (holdsB a s x)) ∧ Below w.heap.size w w' := by
  by_cases h1 : 0 < s
  · by_cases h2 : a ≤ lz x
    · refine (holds_yes a s x w ha hs hx ht h1 h2).mono ?_
      rintro e w' ⟨rfl, hb⟩
      exact ⟨by simp [holdsB, h1, h2], hb⟩
    · refine (holds_far a s x w hx h1 h2).mono ?_
      rintro e w' ⟨rfl, hb⟩
      exact ⟨by simp [holdsB, h2], hb⟩
  · obtain rfl : s = 0 := by omega
    refine (holds_none a x w).mono ?_
    rintro e w' ⟨rfl, hb⟩
    exact ⟨by simp [holdsB], hb⟩

/-- In which way x is told: as nothing, in the window, in a new one. -/
def wayOf (a s x : Nat) : Nat := if x = 0 then 0 else if holdsB a s x then 1 else 2

set_option maxRecDepth 100000 in
set_option maxHeartbeats 400000 in
theorem wayOf_any (a s x : Nat) (w : World) (ha : a ≤ 64) (hs : s ≤ 64) (hx : x ≤ 18446744073709551615) (ht : Tabs w) :
    Calls Tryz.prog 189 #[.agg #[.int .i64 a, .int .i64 s], .int .u64 x] w fun e w' => e = .returned (.int .i64 (wayOf a s x)) ∧ Below w.heap.size w w' := by
  by_cases h0 : x = 0
  · subst h0
    go_enter Tryz.func189, Tryz.ntmps189
    go_wp2
    go_ret
    exact ⟨rfl, (Below.refl _ _).alloc (Nat.le_refl _) _⟩
  · have hx0 : ((x : Int) == 0) = false := by simp; omega
    have hw : wayOf a s x = if holdsB a s x = true then 1 else 2 := by simp [wayOf, h0]
    have HT := hide ht
    have HW := hide hw
    clear ht hw
    go_enter Tryz.func189, Tryz.ntmps189
    go_wp2_with fail
    refine (holds_any a s x _ ha hs hx (HT.out.alloc _)).mono ?_
    rintro e w' ⟨rfl, hb⟩
    have HB := hide (((Below.refl w.heap.size w).alloc (Nat.le_refl _) _).trans (hb.mono (by simp)))
    clear hb
    cases hh : holdsB a s x
    all_goals
      rw [hh] at HW
      clear hh
      go_wp2
      go_ret
      exact ⟨by rw [HW.out]; rfl, HB.out⟩
end Go.Proofs.YtamcclcbmenjdaaGreatDoor

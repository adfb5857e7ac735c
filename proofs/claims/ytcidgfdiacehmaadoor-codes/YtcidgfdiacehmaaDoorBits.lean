/- The bit writer: putBit, put, putMark. -/
import Derived.Test.YtcidgfdiacehmaaDoorVarint
import Derived.Test.YtcidgfdiacehmaaDoorPlainBits
import Derived.BigRegion
import Derived.Deep.RegionLaw
import Derived.Deep.Cut
namespace Go.Proofs.YtcidgfdiacehmaaDoor
open Go.RowKit

/-- What a call leaves that writes the two cells at ⟨pb, po⟩ and the row that lives in block 'own', and makes new blocks. -/
structure Wrote (w w' : World) (pb po : Nat) (own : Option Nat) : Prop where
  os : w'.os = w.os
  tape : w'.tape = w.tape
  output : w'.output = w.output
  size : w.heap.size ≤ w'.heap.size
  block : ∀ k, k < w.heap.size → k ≠ pb → some k ≠ own → w'.heap[k]? = w.heap[k]?
  cells : ∀ o, o ≠ po → o ≠ po + 1 → w'.cell? ⟨pb, o, none⟩ = w.cell? ⟨pb, o, none⟩
  frozen : ∀ o, w'.frozen? ⟨pb, o, none⟩ = w.frozen? ⟨pb, o, none⟩

theorem Wrote.refl (w : World) (pb po : Nat) (own : Option Nat) : Wrote w w pb po own := ⟨rfl, rfl, rfl, Nat.le_refl _, fun _ _ _ _ => rfl, fun _ _ _ => rfl, fun _ => rfl⟩
theorem Wrote.trans {w w1 w2 : World} {pb po : Nat} {v v1 : Value} (h : Wrote w w1 pb po v.ownBlock) (k : Wrote w1 w2 pb po v1.ownBlock) (hh : Heir w v v1) : Wrote w w2 pb po v.ownBlock := by
  refine ⟨k.os.trans h.os, k.tape.trans h.tape, k.output.trans h.output, Nat.le_trans h.size k.size, fun i hi hp hne => ?_, fun o h1 h2 => (k.cells o h1 h2).trans (h.cells o h1 h2), fun o => (k.frozen o).trans (h.frozen o)⟩
  rw [k.block i (Nat.lt_of_lt_of_le hi h.size) hp ?_, h.block i hi hp hne]
  rcases hh with hh | ⟨b, hh, hb⟩
  · rw [hh]; exact hne
  · rw [hh]; intro e; have := Option.some.inj e; omega

/-- A bit writer at ⟨pb, po⟩: its bytes v, of these bits. -/
structure BW (w : World) (pb po : Nat) (v : Value) (bits : List Bool) : Prop where
  c0 : w.cell? ⟨pb, po, none⟩ = some v
  c1 : w.cell? ⟨pb, po + 1, none⟩ = some (.int .i64 bits.length)
  f0 : w.frozen? ⟨pb, po, none⟩ = false
  f1 : w.frozen? ⟨pb, po + 1, none⟩ = false
  bytes : Bytes (pb + 1) w v (Pl.pack bits)

theorem hide {p : Prop} (h : p) : Hid p := h
theorem BW.lt {w : World} {pb po : Nat} {v : Value} {bits : List Bool} (h : BW w pb po v bits) : pb < w.heap.size := World.block_lt_of_cell? w _ h.c0
theorem own_ne {base : Nat} {w : World} {v : Value} {xs : List UInt8} {k : Nat} (h : Bytes base w v xs) (hk : k < base) : v.ownBlock ≠ some k := by
  intro e; have := (World.ownsRow.lt h k e).1; omega

/-- A byte joined by 'or' with a bit below its lowest. -/
theorem or_bit (x c m : Nat) (hx : x < 256) (hc : c ≤ 1) (hm : m < 8) (h : x % 2 ^ (8 - m) = 0) (hs : x + c * 2 ^ (7 - m) < 256) :
    bits .or .u8 (x : Int) ((c : Int) * 2 ^ (7 - m) % 256) = ((x + c * 2 ^ (7 - m) : Nat) : Int) := by
  have hp : 2 ^ (7 - m) ≤ 128 := Nat.le_trans (Nat.pow_le_pow_right (by decide) (by omega : 7 - m ≤ 7)) (by decide)
  have hp2 : 2 ^ (8 - m) = 2 * 2 ^ (7 - m) := by rw [show 8 - m = (7 - m) + 1 by omega, Nat.pow_succ, Nat.mul_comm]
  have h0 : 0 < 2 ^ (7 - m) := Nat.two_pow_pos _
  have hle : c * 2 ^ (7 - m) ≤ 2 ^ (7 - m) := by rcases (show c = 0 ∨ c = 1 by omega) with rfl | rfl <;> simp
  have e1 : ((c : Int) * 2 ^ (7 - m) % 256) = ((c * 2 ^ (7 - m) : Nat) : Int) := by
    have : ((c : Int) * 2 ^ (7 - m)) = ((c * 2 ^ (7 - m) : Nat) : Int) := by simp
    rw [this]; omega
  rw [e1]
  have := bits_join .u8 8 (by decide) wraps_u8 (8 - m) x ((c * 2 ^ (7 - m) : Nat) : Int) (by omega) (by exact_mod_cast h) (by omega) (by omega) (by rw [show ((2 : Int) ^ (8 - m)) = ((2 ^ (8 - m) : Nat) : Int) by simp]; omega) (by omega)
  rw [this]; simp

/-- The last store of a bit, and the count: what comes of it. -/
theorem bit_put {pb po g cap n : Nat} {w : World} {bits : List Bool} {c : Nat} {X : Int} (hc : c ≤ 1) (hn : n = bits.length)
    (hown : Bytes (pb + 1) w (.slice (some ⟨g, 0, none⟩) (n / 8 + 1) cap) (Pl.roomy bits))
    (c0 : w.cell? ⟨pb, po, none⟩ = some (.slice (some ⟨g, 0, none⟩) (n / 8 + 1) cap)) (c1 : w.cell? ⟨pb, po + 1, none⟩ = some (.int .i64 n))
    (f0 : w.frozen? ⟨pb, po, none⟩ = false) (f1 : w.frozen? ⟨pb, po + 1, none⟩ = false) (x : UInt8) (hx : (Pl.roomy bits)[n / 8]? = some x)
    (hX : X = ((x.toNat + c * 2 ^ (7 - n % 8) : Nat) : Int)) :
    BW ((w.setCell ⟨g, n / 8, none⟩ (.int .u8 X)).setCell ⟨pb, po + 1, none⟩ (.int .i64 ((n : Int) + 1))).drew pb po (.slice (some ⟨g, 0, none⟩) (n / 8 + 1) cap) (bits ++ [c == 1]) ∧
    Wrote w ((w.setCell ⟨g, n / 8, none⟩ (.int .u8 X)).setCell ⟨pb, po + 1, none⟩ (.int .i64 ((n : Int) + 1))).drew pb po (some g) := by
  subst hn
  have hgp : g ≠ pb := fun e => own_ne hown (Nat.lt_succ_self pb) (by simp [Value.ownBlock, e])
  have hcb : (c == 1).toNat = c := by rcases (show c = 0 ∨ c = 1 by omega) with rfl | rfl <;> rfl
  obtain ⟨hp, _, hlt⟩ := Pl.pack_snoc bits (c == 1) x hx
  rw [hcb] at hp hlt
  have hst := World.ownsRow.stored (by simpa [Bytes, Pl.roomy_length] using hown) (bits.length / 8) (.int .u8 X)
  have hb := ownsRow_setCell_below hst.1 (a := ⟨pb, po + 1, none⟩) (Nat.lt_succ_self pb) (.int .i64 ((bits.length : Int) + 1))
  refine ⟨⟨?_, ?_, by simpa using f0, by simpa using f1, ?_⟩, ⟨rfl, rfl, rfl, by simp, ?_, ?_, by simp⟩⟩
  · show ((w.setCell _ _).setCell _ _).cell? _ = _
    rw [World.cell?_setCell_other _ _ _ _ (fun e => absurd (congrArg Addr.off e) (by simp)), World.cell?_setCell_other _ _ _ _ (fun e => hgp (congrArg Addr.block e))]; exact c0
  · show ((w.setCell _ _).setCell _ _).cell? _ = _
    rw [World.cell?_setCell_same _ _ _ (u := .int .i64 bits.length) (by rw [World.cell?_setCell_other _ _ _ _ (fun e => hgp (congrArg Addr.block e))]; exact c1)]
    simp
  · unfold Bytes
    rw [hp]
    have e : (Pl.Bs (Pl.roomy bits)).set (bits.length / 8) (.int .u8 X) = Pl.Bs ((Pl.roomy bits).set (bits.length / 8) (UInt8.ofNat (x.toNat + c * 2 ^ (7 - bits.length % 8)))) := by
      rw [Pl.Bs, Pl.Bs, List.map_set]; congr 1; simp only [Pl.B]; rw [Pl.u8_ofNat _ hlt, hX]
    rw [e] at hb
    rw [List.length_set, Pl.roomy_length]
    exact hb
  · intro k _ hkp hkg
    show ((w.setCell _ _).setCell _ _).heap[k]? = _
    rw [heap_setCell_other _ _ _ _ (by simpa using hkp), heap_setCell_other _ _ _ _ (by simpa using hkg)]
  · intro o h1 h2
    show ((w.setCell _ _).setCell _ _).cell? _ = _
    rw [World.cell?_setCell_other _ _ _ _ (fun e => h2 (congrArg Addr.off e).symm), World.cell?_setCell_other _ _ _ _ (fun e => hgp (congrArg Addr.block e))]

/-- All that the walk wants to know ahead of the store of a bit, and what comes of it. -/
theorem bit_facts {pb po g cap n : Nat} {w : World} {bits : List Bool} {c : Nat} (hc : c ≤ 1) (hn : n = bits.length)
    (hown : Bytes (pb + 1) w (.slice (some ⟨g, 0, none⟩) (n / 8 + 1) cap) (Pl.roomy bits))
    (c0 : w.cell? ⟨pb, po, none⟩ = some (.slice (some ⟨g, 0, none⟩) (n / 8 + 1) cap)) (c1 : w.cell? ⟨pb, po + 1, none⟩ = some (.int .i64 n))
    (f0 : w.frozen? ⟨pb, po, none⟩ = false) (f1 : w.frozen? ⟨pb, po + 1, none⟩ = false) :
    ∃ x : UInt8, Go.bits .or .u8 (x.toNat : Int) ((c : Int) * 2 ^ (7 - n % 8) % 256) = ((x.toNat + c * 2 ^ (7 - n % 8) : Nat) : Int) ∧
      w.cell? ⟨g, n / 8, none⟩ = some (.int .u8 x.toNat) ∧ w.frozen? ⟨g, n / 8, none⟩ = false ∧
      (∀ u, (w.setCell ⟨g, n / 8, none⟩ u).cell? ⟨pb, po + 1, none⟩ = some (.int .i64 n)) ∧ g ≠ pb ∧
      Hid (BW ((w.setCell ⟨g, n / 8, none⟩ (.int .u8 ((x.toNat : Int) + (c : Int) * 2 ^ (7 - n % 8)))).setCell ⟨pb, po + 1, none⟩ (.int .i64 ((n : Int) + 1))).drew pb po (.slice (some ⟨g, 0, none⟩) (n / 8 + 1) cap) (bits ++ [c == 1]) ∧
        Wrote w ((w.setCell ⟨g, n / 8, none⟩ (.int .u8 ((x.toNat : Int) + (c : Int) * 2 ^ (7 - n % 8)))).setCell ⟨pb, po + 1, none⟩ (.int .i64 ((n : Int) + 1))).drew pb po (some g)) := by
  have hgp : g ≠ pb := fun e => own_ne hown (Nat.lt_succ_self pb) (by simp [Value.ownBlock, e])
  obtain ⟨x, hx⟩ : ∃ x, (Pl.roomy bits)[n / 8]? = some x := ⟨_, List.getElem?_eq_getElem (by rw [Pl.roomy_length]; omega)⟩
  have hps := Pl.pack_snoc bits (c == 1) x (by rw [← hn]; exact hx)
  have hcb : (c == 1).toNat = c := by rcases (show c = 0 ∨ c = 1 by omega) with rfl | rfl <;> rfl
  have hor := or_bit x.toNat c (n % 8) x.toNat_lt hc (by omega) (by rw [hn]; exact hps.2.1) (by rw [hn]; have := hps.2.2; rw [hcb] at this; exact this)
  have fin := bit_put (X := (x.toNat : Int) + (c : Int) * 2 ^ (7 - n % 8)) hc hn hown c0 c1 f0 f1 x hx (by simp)
  refine ⟨x, hor, ?_, World.ownsRow.frozenAt (by simpa [Bytes, Pl.roomy_length, ← hn] using hown) (n / 8), fun u => ?_, hgp, fin⟩
  · rw [World.ownsRow.cellAt (by simpa [Bytes, Pl.roomy_length, ← hn] using hown) (n / 8) (by omega)]
    simp [Pl.Bs, Pl.B, hx]
  · rw [World.cell?_setCell_other _ _ _ _ (fun e => hgp (congrArg Addr.block e))]; exact c1

set_option maxRecDepth 100000 in
set_option maxHeartbeats 400000 in
theorem putBit_mid (pb po g cap n c : Nat) (w : World) (bits : List Bool) (hc : c ≤ 1) (hn : n = bits.length) (hnb : n ≤ 1099511627776) (hm : ¬ n % 8 = 0)
    (hown : Bytes (pb + 1) w (.slice (some ⟨g, 0, none⟩) (n / 8 + 1) cap) (Pl.roomy bits))
    (c0 : w.cell? ⟨pb, po, none⟩ = some (.slice (some ⟨g, 0, none⟩) (n / 8 + 1) cap)) (c1 : w.cell? ⟨pb, po + 1, none⟩ = some (.int .i64 n))
    (f0 : w.frozen? ⟨pb, po, none⟩ = false) (f1 : w.frozen? ⟨pb, po + 1, none⟩ = false) :
    Calls Tryd.prog 99 #[.pointer (some ⟨pb, po, none⟩), .int .u8 c] w fun e w' => e = .returned (.tuple #[]) ∧
      ∃ v', BW w' pb po v' (bits ++ [c == 1]) ∧ Wrote w w' pb po (some g) ∧ v'.ownBlock = some g := by
  obtain ⟨x, hor, hcell, hfr, hc1, hgp, FIN⟩ := bit_facts hc hn hown c0 c1 f0 f1
  have HN := hide hn
  have hb1 : ((n : Int) % 8 == 0) = false := by simp; omega
  have hlt : (n : Int) / 8 < (n / 8 + 1 : Nat) := by omega
  clear hn hown
  go_enter Tryd.func99, Tryd.ntmps99
  go_wp2
  go_region
  go_wp2
  go_end0
  exact ⟨rfl, _, FIN.out.1, FIN.out.2, rfl⟩

/-- The value of a slice that owns something. -/
theorem ownsRow_some {base : Nat} {w : World} {e : TypeId} {v : Value} {n : Nat} {xs : List Value} (h : w.ownsRow base e 1 v n xs) (hn : 0 < n) : ∃ g cap, v = .slice (some ⟨g, 0, none⟩) n cap ∧ base ≤ g := by
  rcases h.2 with ⟨_, h0⟩ | ⟨g, cap, cur, hv, hb, _⟩
  · omega
  · exact ⟨g, cap, hv, hb⟩

/-- Behind an append whose value has been stored into the field. -/
theorem new_row {w w1 : World} {v : Value} {pb po g cap n : Nat} {xs : List UInt8} (hg : w.grownBy w1 v.ownBlock) (hlt : pb < w.heap.size) (hpo : some pb ≠ v.ownBlock)
    (hown : w1.ownsRow (pb + 1) 5 1 (.slice (some ⟨g, 0, none⟩) (n / 8 + 1) cap) (n / 8 + 1) (Pl.Bs xs)) (d0 : w1.cell? ⟨pb, po, none⟩ = some v) :
    Bytes (pb + 1) (w1.setCell ⟨pb, po, none⟩ (.slice (some ⟨g, 0, none⟩) (n / 8 + 1) cap)) (.slice (some ⟨g, 0, none⟩) (n / 8 + 1) cap) xs ∧
    (w1.setCell ⟨pb, po, none⟩ (.slice (some ⟨g, 0, none⟩) (n / 8 + 1) cap)).cell? ⟨pb, po, none⟩ = some (.slice (some ⟨g, 0, none⟩) (n / 8 + 1) cap) ∧
    (w1.setCell ⟨pb, po, none⟩ (.slice (some ⟨g, 0, none⟩) (n / 8 + 1) cap)).cell? ⟨pb, po + 1, none⟩ = w.cell? ⟨pb, po + 1, none⟩ ∧
    (w1.setCell ⟨pb, po, none⟩ (.slice (some ⟨g, 0, none⟩) (n / 8 + 1) cap)).frozen? ⟨pb, po, none⟩ = w.frozen? ⟨pb, po, none⟩ ∧
    (w1.setCell ⟨pb, po, none⟩ (.slice (some ⟨g, 0, none⟩) (n / 8 + 1) cap)).frozen? ⟨pb, po + 1, none⟩ = w.frozen? ⟨pb, po + 1, none⟩ ∧
    Wrote w (w1.setCell ⟨pb, po, none⟩ (.slice (some ⟨g, 0, none⟩) (n / 8 + 1) cap)) pb po v.ownBlock := by
  have hblk := hg.block pb hlt hpo
  have hl : xs.length = n / 8 + 1 := by have := hown.1; simp [Pl.Bs_length] at this; exact this
  refine ⟨?_, World.cell?_setCell_same _ _ _ d0, ?_, ?_, ?_, ⟨hg.os, hg.tape, hg.output, by simpa using hg.size, ?_, ?_, ?_⟩⟩
  · unfold Bytes
    rw [hl]
    exact ownsRow_setCell_below hown (a := ⟨pb, po, none⟩) (Nat.lt_succ_self pb) _
  · rw [World.cell?_setCell_other _ _ _ _ (fun e => absurd (congrArg Addr.off e) (by simp))]; exact World.cell?_of_block (a := ⟨pb, po + 1, none⟩) hblk
  · rw [World.frozen?_setCell]; exact World.frozen?_of_block (a := ⟨pb, po, none⟩) hblk
  · rw [World.frozen?_setCell]; exact World.frozen?_of_block (a := ⟨pb, po + 1, none⟩) hblk
  · intro k hk hkp hko
    rw [heap_setCell_other _ _ _ _ hkp]; exact hg.block k hk hko
  · intro o h1 _
    rw [World.cell?_setCell_other _ _ _ _ (fun e => h1 (congrArg Addr.off e).symm)]; exact World.cell?_of_block (a := ⟨pb, o, none⟩) hblk
  · intro o
    rw [World.frozen?_setCell]; exact World.frozen?_of_block (a := ⟨pb, o, none⟩) hblk

set_option maxRecDepth 100000 in
set_option maxHeartbeats 400000 in
theorem putBit_new (pb po n c : Nat) (v : Value) (w : World) (bits : List Bool) (hc : c ≤ 1) (hn : n = bits.length) (hnb : n ≤ 1099511627776) (hm : n % 8 = 0) (H : BW w pb po v bits) :
    Calls Tryd.prog 99 #[.pointer (some ⟨pb, po, none⟩), .int .u8 c] w fun e w' => e = .returned (.tuple #[]) ∧
      ∃ v', BW w' pb po v' (bits ++ [c == 1]) ∧ Wrote w w' pb po v.ownBlock ∧ Heir w v v' := by
  obtain ⟨i0, hi, hz0, hz1, hz2⟩ := info_parts Tryd.infoU8
  have hlt0 := H.lt
  have c0 := H.c0
  have c1 : w.cell? ⟨pb, po + 1, none⟩ = some (.int .i64 n) := by rw [hn]; exact H.c1
  have hlen : (Pl.pack bits).length ≤ 1099511627776 := by rw [Pl.pack_length]; omega
  have hb1 : ((n : Int) % 8 == 0) = true := by simp; omega
  have HN := hide hn
  have hbs := H.bytes
  have f0 := H.f0
  have f1 := H.f1
  clear hn
  go_enter Tryd.func99, Tryd.ntmps99
  go_wp2_with (first | (at_builtin; refine wpList_append_heir _ rfl (.tmp 14) (.tmp 15) 63 rfl (pb + 1) 5 i0 (.int .u8 0) 1 1 Tryd.underlying63 hi hz0 hz1 hz2 rfl (by decide) _ _ _ rfl (hbs.alloc _) ⟨w.heap.size, 0, none⟩ 1 1 [.int .u8 0] rfl rfl ?c1 ?c2 ?c3 ?c4 ?c5 ?_))
  case c1 => exact cell_one_new _ _ _
  case c2 => exact oneB _
  case c3 => unfold maxLen; omega
  case c4 => omega
  case c5 => simp; omega
  intro v' w1 hown' hgrow hheir
  have hgw := grownBy_alloc_then hgrow
  have hh := hheir.of_alloc
  have hpo : some pb ≠ v.ownBlock := fun e => own_ne hbs (Nat.lt_succ_self pb) e.symm
  have hblk := hgw.block pb hlt0 hpo
  have d0 : w1.cell? ⟨pb, po, none⟩ = some v := (World.cell?_of_block (a := ⟨pb, po, none⟩) hblk).trans c0
  have d1 : w1.cell? ⟨pb, po + 1, none⟩ = some (.int .i64 n) := (World.cell?_of_block (a := ⟨pb, po + 1, none⟩) hblk).trans c1
  have e0 : w1.frozen? ⟨pb, po, none⟩ = false := (World.frozen?_of_block (a := ⟨pb, po, none⟩) hblk).trans f0
  have e1 : w1.frozen? ⟨pb, po + 1, none⟩ = false := (World.frozen?_of_block (a := ⟨pb, po + 1, none⟩) hblk).trans f1
  have hx : ∃ g cap, v' = .slice (some ⟨g, 0, none⟩) ((Pl.pack bits).length + 1) cap ∧ pb + 1 ≤ g := ownsRow_some hown' (by omega)
  obtain ⟨g, cap, hv', hg⟩ := hx
  rw [hv']
  have hrm : Pl.roomy bits = Pl.pack bits ++ [0] := by unfold Pl.roomy; rw [if_pos (by rw [← HN.out]; exact hm)]
  have hL : (Pl.pack bits).length + 1 = n / 8 + 1 := by rw [Pl.pack_length, ← HN.out]; omega
  have N := new_row (w := w) (w1 := w1) (v := v) (pb := pb) (po := po) (g := g) (cap := cap) (n := n) (xs := Pl.roomy bits) hgw hlt0 hpo (by rw [hv', hL] at hown'; rw [hrm, Pl.Bs_append]; exact hown') d0
  rw [hv'] at hh
  rw [hL] at hh ⊢
  clear hown' hgrow hheir hgw hv' hrm hL hblk hbs c0 H
  go_upto_region 2 with fail
  generalize w1.setCell ⟨pb, po, none⟩ (.slice (some ⟨g, 0, none⟩) (n / 8 + 1) cap) = w2 at *
  obtain ⟨hown2, k0, k1, q0, q1, hwr⟩ := N
  rw [c1] at k1
  rw [f0] at q0
  rw [f1] at q1
  obtain ⟨x, hor, hcell, hfr, hc1, hgp, FIN⟩ := bit_facts (w := w2) hc HN.out hown2 k0 k1 q0 q1
  have hlt : (n : Int) / 8 < (n / 8 + 1 : Nat) := by omega
  have WR := hide (hwr.trans (v1 := .slice (some ⟨g, 0, none⟩) (n / 8 + 1) cap) FIN.out.2 hh)
  have BB := hide FIN.out.1
  have HH := hide hh
  clear FIN hwr hown2 d0 d1 e0 e1 c1 f0 f1 hm hh hlen
  go_region
  go_wp2
  go_end0
  exact ⟨rfl, _, BB.out, WR.out, HH.out⟩

theorem pack_roomy {bits : List Bool} (h : ¬ bits.length % 8 = 0) : Pl.roomy bits = Pl.pack bits := by unfold Pl.roomy; rw [if_neg h]

/-- (*bitWriter).putBit: one bit more. -/
theorem putBit_any (pb po c : Nat) (v : Value) (w : World) (bits : List Bool) (hc : c ≤ 1) (hnb : bits.length ≤ 1099511627776) (H : BW w pb po v bits) :
    Calls Tryd.prog 99 #[.pointer (some ⟨pb, po, none⟩), .int .u8 c] w fun e w' => e = .returned (.tuple #[]) ∧
      ∃ v', BW w' pb po v' (bits ++ [c == 1]) ∧ Wrote w w' pb po v.ownBlock ∧ Heir w v v' := by
  by_cases hm : bits.length % 8 = 0
  · exact putBit_new pb po bits.length c v w bits hc rfl hnb hm H
  · have hb := H.bytes
    have hl : (Pl.pack bits).length = bits.length / 8 + 1 := by rw [Pl.pack_length]; omega
    unfold Bytes at hb
    rw [hl] at hb
    obtain ⟨g, cap, rfl, _⟩ := ownsRow_some hb (by omega)
    refine (putBit_mid pb po g cap bits.length c w bits hc rfl hnb hm ?_ H.c0 H.c1 H.f0 H.f1).mono ?_
    · unfold Bytes; rw [Pl.roomy_length, pack_roomy hm]; exact hb
    · rintro e w' ⟨he, v', h1, h2, h3⟩
      exact ⟨he, v', h1, h2, .inl h3⟩
end Go.Proofs.YtcidgfdiacehmaaDoor

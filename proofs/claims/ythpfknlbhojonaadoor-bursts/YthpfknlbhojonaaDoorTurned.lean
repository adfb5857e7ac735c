/- choirkeep's turned. -/
import Derived.Test.YthpfknlbhojonaaDoorKeep
import Derived.Test.YthpfknlbhojonaaDoorBurst
namespace Go.Proofs.YthpfknlbhojonaaDoor
open Go.RowKit Go.Lib

/-- Bytes in block g, free to be written. -/
structure TB (w : World) (g : Nat) (l : List UInt8) : Prop where
  cell : ∀ j, j < l.length → w.cell? ⟨g, j, none⟩ = some (.int .u8 ((l.getD j 0).toNat : Int))
  fr : ∀ j, j < l.length → w.frozen? ⟨g, j, none⟩ = false
theorem TB.set {w : World} {g : Nat} {l : List UInt8} (h : TB w g l) (i : Nat) (hi : i < l.length) (x : UInt8) : TB (w.setCell ⟨g, i, none⟩ (.int .u8 (x.toNat : Int))) g (l.set i x) := by
  refine ⟨fun j hj => ?_, fun j hj => ?_⟩
  · rw [List.length_set] at hj
    by_cases e : j = i
    · subst e
      rw [World.cell?_setCell_same _ _ _ (h.cell j hj), List.getD_eq_getElem?_getD, List.getElem?_set, if_pos rfl, if_pos hj]; rfl
    · rw [World.cell?_setCell_other _ _ _ _ (fun y => e (congrArg Addr.off y).symm), h.cell j hj, List.getD_eq_getElem?_getD, List.getD_eq_getElem?_getD, List.getElem?_set, if_neg (fun y => e y.symm)]
  · rw [List.length_set] at hj
    rw [World.frozen?_setCell]; exact h.fr j hj
/-- Bit k of a mask. -/
def mbit (mask : Int) (k : Nat) : Bool := decide (mask / 2 ^ k % 2 = 1)
theorem and_one (n : Int) : Go.bits .and .i64 n 1 = n % 2 := by
  show IntKind.i64.wrap ((BitVec.ofInt 64 n &&& BitVec.ofInt 64 1).toNat : Int) = n % 2
  have e1 : (BitVec.ofInt 64 1).toNat = 1 := by decide
  rw [BitVec.toNat_and, e1, Nat.and_one_is_mod, BitVec.toNat_ofInt, IntKind.wrap_i64]
  omega

theorem bits_xor_u8 (a b : Nat) (ha : a < 256) (hb : b < 256) : Go.bits .xor .u8 (a : Int) (b : Int) = ((a ^^^ b : Nat) : Int) := by
  have hx : a ^^^ b < 2 ^ 8 := Nat.xor_lt_two_pow (by omega) (by omega)
  have h1 : (BitVec.ofInt 8 (a : Int)).toNat = a := by
    rw [BitVec.ofInt_natCast, BitVec.toNat_ofNat]; exact Nat.mod_eq_of_lt (by omega)
  have h2 : (BitVec.ofInt 8 (b : Int)).toNat = b := by
    rw [BitVec.ofInt_natCast, BitVec.toNat_ofNat]; exact Nat.mod_eq_of_lt (by omega)
  show IntKind.u8.wrap ((BitVec.ofInt 8 (a : Int) ^^^ BitVec.ofInt 8 (b : Int)).toNat : Int) = _
  rw [BitVec.toNat_xor, h1, h2, IntKind.wrap_u8]
  omega
theorem xor_pow (o : UInt8) (j : Nat) (hj : j < 8) : Go.bits .xor .u8 (o.toNat : Int) (2 ^ j % 256) = ((o ^^^ UInt8.ofNat (2 ^ j)).toNat : Int) := by
  have hp : 2 ^ j < 256 := Nat.lt_of_lt_of_le (Nat.pow_lt_pow_right (by decide) hj) (by decide)
  have e : ((2 : Int) ^ j % 256) = ((2 ^ j : Nat) : Int) := by
    rw [show ((2 : Int) ^ j) = ((2 ^ j : Nat) : Int) by simp]
    exact Int.emod_eq_of_lt (Int.natCast_nonneg _) (Int.ofNat_lt.2 hp)
  rw [e, bits_xor_u8 _ _ o.toNat_lt hp, UInt8.toNat_xor, ofNat_toNat _ hp]
theorem TB.drew {w : World} {g : Nat} {l : List UInt8} (h : TB w g l) : TB w.drew g l := ⟨h.cell, h.fr⟩

set_option maxRecDepth 100000 in
set_option maxHeartbeats 400000 in
theorem turned_any (s : ByteArray) (at' : Nat) (mask : Int) (w : World) (hs : s.size ≤ 1000000) (ha : at' ≤ 1000000000) :
    Calls Tryd.prog 18 #[.string s, .int .i64 at', .int .i64 mask] w fun e w' => e = .returned (.string (BA (turnTo s.data.toList at' (mbit mask) 32))) ∧ Below w.heap.size w w' := by
  have hcv := run_bytes_of_string (P := Tryd.prog) w 9 63 5 s Tryd.underlying9 Tryd.underlying63 Tryd.underlying5
  have hl : s.data.toList.length = s.size := by simp
  go_enter Tryd.func18, Tryd.ntmps18
  go_wp2
  generalize hcap : grownCap w s.size 0 5 = cap at *
  have HTB : Hid (TB (w.alloc (.cells (bytesRow s cap) 5 ((bytesRow s cap).size, (bytesRow s cap).size + 1))).drew w.heap.size s.data.toList) := by
    have hbr : ∀ j, j < s.size → (bytesRow s cap)[j]? = some (.int .u8 ((s.data.toList.getD j 0).toNat : Int)) := fun j hj => by
      unfold bytesRow
      rw [Array.getElem?_append_left (by simp; exact hj)]
      have hj' : j < s.data.size := hj
      have e : s.data.toList.getD j 0 = s.data[j] := by rw [List.getD_eq_getElem?_getD, Array.getElem?_toList, Array.getElem?_eq_getElem hj']; rfl
      rw [e, Array.getElem?_map, Array.getElem?_eq_getElem hj']; rfl
    have hsz : s.size ≤ (bytesRow s cap).size := by unfold bytesRow; simp
    refine ⟨fun j hj => ?_, fun j hj => ?_⟩
    · rw [hl] at hj
      rw [← hbr j hj]
      exact World.cell?_alloc_mark w _ _ _ j
    · rw [hl] at hj
      have hh : (w.alloc (.cells (bytesRow s cap) 5 ((bytesRow s cap).size, (bytesRow s cap).size + 1))).drew.heap[w.heap.size]? = some (.cells (bytesRow s cap) 5 ((bytesRow s cap).size, (bytesRow s cap).size + 1)) := _root_.Go.heap_alloc_new w _
      unfold World.frozen?
      rw [hh]
      have hlt : ¬ (bytesRow s cap).size ≤ j := by omega
      simp [hlt]
  have HB0 : Hid (Below w.heap.size w (w.alloc (.cells (bytesRow s cap) 5 ((bytesRow s cap).size, (bytesRow s cap).size + 1))).drew) := ((Below.refl _ _).alloc (Nat.le_refl _) _).drew
  clear hcv hcap
  go_loopw [8, 9] (fun i _ wr => ∃ n : Nat, n ≤ 32 ∧ i = .int .i64 n ∧ TB wr w.heap.size (turnTo s.data.toList at' (mbit mask) n) ∧ Below w.heap.size w wr) (fun i _ _ => 32 - (intOf i).toNat)
  case atStart => exact ⟨0, by omega, rfl, HTB.out, HB0.out⟩
  case round =>
    obtain ⟨n, hn, rfl, hTB, hB⟩ := hrel
    have HB := hide hB
    have hlen := turnTo_length s.data.toList at' (mbit mask) n
    rw [hl] at hlen
    clear HTB HB0
    by_cases hlt : n < 32
    · have hand := and_one (mask / 2 ^ n)
      by_cases hb : mask / 2 ^ n % 2 = 1
      · by_cases hi : (at' + n) / 8 < s.size
        · have hc := hTB.cell ((at' + n) / 8) (by omega)
          have hf := hTB.fr ((at' + n) / 8) (by omega)
          have hq9 : ((at' : Int) + (n : Int)) / 8 < (s.size : Int) := by omega
          have h08 : 0 ≤ ((at' : Int) + (n : Int)) / 8 := by omega
          have htn : (((at' : Int) + (n : Int)) / 8).toNat = (at' + n) / 8 := by omega
          have hw8 : IntKind.i64.wrap (((at' : Int) + (n : Int)) / 8) = ((at' : Int) + (n : Int)) / 8 := by rw [IntKind.wrap_i64]; omega
          have hwa : IntKind.i64.wrap ((at' : Int) + (n : Int)) = (at' : Int) + (n : Int) := by rw [IntKind.wrap_i64]; omega
          have hn5 : (n : Int) < 32 := by omega
          generalize hold : (turnTo s.data.toList at' (mbit mask) n).getD ((at' + n) / 8) 0 = old at *
          have HOld := hide hold
          clear hold
          go_wp2
          have hT1 := (hTB.set ((at' + n) / 8) (by omega) (old ^^^ UInt8.ofNat (2 ^ ((at' + n) % 8)))).drew
          have hxp := xor_pow old ((at' + n) % 8) (Nat.mod_lt _ (by decide))
          rw [← hxp] at hT1
          have HT1 : Hid (TB (wr.setCell ⟨w.heap.size, (at' + n) / 8, none⟩ (.int .u8 (Go.bits .xor .u8 (old.toNat : Int) (2 ^ ((at' + n) % 8) % 256)))).drew w.heap.size (turnTo s.data.toList at' (mbit mask) (n + 1))) := by
            have e : turnTo s.data.toList at' (mbit mask) (n + 1) = (turnTo s.data.toList at' (mbit mask) n).set ((at' + n) / 8) (((turnTo s.data.toList at' (mbit mask) n).getD ((at' + n) / 8) 0) ^^^ UInt8.ofNat (2 ^ ((at' + n) % 8))) := by
              rw [turnTo, if_pos ⟨decide_eq_true hb, by rw [hl]; exact hi⟩]
            rw [e, HOld.out]; exact hT1
          have HB1 : Hid (Below w.heap.size w (wr.setCell ⟨w.heap.size, (at' + n) / 8, none⟩ (.int .u8 (Go.bits .xor .u8 (old.toNat : Int) (2 ^ ((at' + n) % 8) % 256)))).drew) := (HB.out.setCell (p := ⟨w.heap.size, (at' + n) / 8, none⟩) (Nat.le_refl _) _).drew
          clear hT1 hxp hTB hB
          go_region
          go_wp2
          go_roundw
          case rel => exact ⟨n + 1, by omega, by go_num, HT1.out, HB1.out⟩
          case measure => simp [intOf]; omega
        · have HT1 : Hid (TB wr w.heap.size (turnTo s.data.toList at' (mbit mask) (n + 1))) := by
            have e : turnTo s.data.toList at' (mbit mask) (n + 1) = turnTo s.data.toList at' (mbit mask) n := by
              rw [turnTo, if_neg (fun h => hi (by rw [← hl]; exact h.2))]
            rw [e]; exact hTB
          have hq9 : ¬ ((at' : Int) + (n : Int)) / 8 < (s.size : Int) := by omega
          have hw8 : IntKind.i64.wrap (((at' : Int) + (n : Int)) / 8) = ((at' : Int) + (n : Int)) / 8 := by rw [IntKind.wrap_i64]; omega
          have hwa : IntKind.i64.wrap ((at' : Int) + (n : Int)) = (at' : Int) + (n : Int) := by rw [IntKind.wrap_i64]; omega
          have hn5 : (n : Int) < 32 := by omega
          clear hTB hB
          go_wp2
          go_roundw
          case rel => exact ⟨n + 1, by omega, by go_num, HT1.out, HB.out⟩
          case measure => simp [intOf]; omega
      · have HT1 : Hid (TB wr w.heap.size (turnTo s.data.toList at' (mbit mask) (n + 1))) := by
          have e : turnTo s.data.toList at' (mbit mask) (n + 1) = turnTo s.data.toList at' (mbit mask) n := by
            rw [turnTo, if_neg (fun h => hb (of_decide_eq_true h.1))]
          rw [e]; exact hTB
        have hw8 : IntKind.i64.wrap (((at' : Int) + (n : Int)) / 8) = ((at' : Int) + (n : Int)) / 8 := by rw [IntKind.wrap_i64]; omega
        have hwa : IntKind.i64.wrap ((at' : Int) + (n : Int)) = (at' : Int) + (n : Int) := by rw [IntKind.wrap_i64]; omega
        have hn5 : (n : Int) < 32 := by omega
        have hbb : (mask / 2 ^ n % 2 == 1) = false := by simpa using hb
        clear hTB hB
        go_wp2
        go_roundw
        case rel => exact ⟨n + 1, by omega, by go_num, HT1.out, HB.out⟩
        case measure => simp [intOf]; omega
    · have hn2 : n = 32 := by omega
      subst hn2
      have hcv := run_convert_bytes_back (P := Tryd.prog) wr 63 9 5 ⟨w.heap.size, 0, none⟩ cap (turnTo s.data.toList at' (mbit mask) 32) Tryd.underlying63 Tryd.underlying5 Tryd.underlying9 (fun j hj => by
        have := hTB.cell j hj
        rw [List.getD_eq_getElem?_getD, List.getElem?_eq_getElem hj] at this
        have e : (⟨w.heap.size, 0, none⟩ : Addr).add j = ⟨w.heap.size, j, none⟩ := by simp [Addr.add]; exact fun h => h.symm
        rw [e]; exact this)
      rw [hlen] at hcv
      clear hTB hB
      go_wp2
      go_ret
      exact ⟨rfl, HB.out⟩
end Go.Proofs.YthpfknlbhojonaaDoor

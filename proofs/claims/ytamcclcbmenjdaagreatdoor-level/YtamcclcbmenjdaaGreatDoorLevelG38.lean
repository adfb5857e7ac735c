/- 'choirkeep.Level', for any list of steps (100 of them are done): when all are up, nothing is under way, and each has told each other one, all have the same, and compacted logs are the same bytes. The first form's statement and its card: no condition beside the row's own. -/
import Derived.Test.YtamcclcbmenjdaaGreatDoorLevelG37
import Derived.Test.YtamcclcbmenjdaaGreatDoorLevelG20
import Derived.Lib.MinMax
import Derived.Test.YtamcclcbmenjdaaGreatDoorLevelG28
/- What is under way: turn. -/
namespace Go.Proofs.YtamcclcbmenjdaaGreatDoor
open Go.RowKit Go.Lib

theorem and_one32 (n : Int) : Go.bits .and .u32 n 1 = n % 2 := by
  show IntKind.u32.wrap ((BitVec.ofInt 32 n &&& BitVec.ofInt 32 1).toNat : Int) = n % 2
  have e1 : (BitVec.ofInt 32 1).toNat = 1 := by decide
  rw [BitVec.toNat_and, e1, Nat.and_one_is_mod, BitVec.toNat_ofInt, IntKind.wrap_u32]
  omega
theorem xor_zero8 (o : UInt8) : Go.bits .xor .u8 (o.toNat : Int) 0 = (o.toNat : Int) := by
  have := bits_xor_u8 o.toNat 0 o.toNat_lt (by decide)
  simpa using this
theorem turnTo_more (l : List UInt8) (at' : Nat) (m : Nat → Bool) (n : Nat) (h : 8 * l.length ≤ at' + n) : ∀ d, turnTo l at' m (n + d) = turnTo l at' m n
  | 0 => rfl
  | d + 1 => by
    rw [show n + (d + 1) = (n + d) + 1 by omega, turnTo, if_neg (fun h2 => by have := h2.2; omega)]
    exact turnTo_more l at' m n h d

set_option maxRecDepth 100000 in
set_option maxHeartbeats 1000000 in
theorem turn_any (s : ByteArray) (at' : Nat) (m : Nat) (w : World) (hs : s.size ≤ 1000000) (ha : at' < 8 * s.size) :
    Calls Tryz.prog 124 #[.string s, .int .i64 at', .int .u32 m] w fun e w' => e = .returned (.string (BA (turnTo s.data.toList at' (mbit m) 32))) ∧ Below w.heap.size w w' := by
  have hcv := run_bytes_of_string (P := Tryz.prog) w 9 83 5 s Tryz.underlying9 Tryz.underlying83 Tryz.underlying5
  have hl : s.data.toList.length = s.size := by simp
  obtain ⟨lim, hlim⟩ : ∃ lim : Nat, min (32 : Int) (8 * (s.size : Int) - (at' : Int)) = (lim : Int) := ⟨(min (32 : Int) (8 * (s.size : Int) - (at' : Int))).toNat, by omega⟩
  have hl1 : lim ≤ 32 := by omega
  have hl2 : at' + lim ≤ 8 * s.size := by omega
  have HEq : Hid (turnTo s.data.toList at' (mbit m) lim = turnTo s.data.toList at' (mbit m) 32) := by
    rcases Nat.eq_or_lt_of_le hl1 with h | h
    · rw [h]; rfl
    · have h3 : 8 * s.data.toList.length ≤ at' + lim := by rw [hl]; omega
      have := turnTo_more s.data.toList at' (mbit m) lim h3 (32 - lim)
      rw [show lim + (32 - lim) = 32 by omega] at this
      exact this.symm
  go_enter Tryz.func124, Tryz.ntmps124
  go_wp2
  generalize hcap : grownCap w s.size 0 5 = cap at *
  have HTB : Hid (TB (w.alloc (.cells (bytesRow s cap) 5 ((bytesRow s cap).size, (bytesRow s cap).size + 1))).drew w.heap.size s.data.toList) := by
    have hbr : ∀ j, j < s.size → (bytesRow s cap)[j]? = some (.int .u8 ((s.data.toList.getD j 0).toNat : Int)) := fun j hj => by
      unfold bytesRow
      rw [Array.getElem?_append_left (by simp; exact hj)]
      have hj' : j < s.data.size := hj
      have e : s.data.toList.getD j 0 = s.data[j] := by rw [List.getD_eq_getElem?_getD, Array.getElem?_toList, Array.getElem?_eq_getElem hj']; rfl
      rw [e, Array.getElem?_map, Array.getElem?_eq_getElem hj']; rfl
    have hsz : s.size ≤ (bytesRow s cap).size := by unfold bytesRow; simp
    refine ⟨fun j hj => ?_, fun j hj => ?_⟩
    · rw [hl] at hj
      rw [← hbr j hj]
      exact World.cell?_alloc_mark w _ _ _ j
    · rw [hl] at hj
      have hh : (w.alloc (.cells (bytesRow s cap) 5 ((bytesRow s cap).size, (bytesRow s cap).size + 1))).drew.heap[w.heap.size]? = some (.cells (bytesRow s cap) 5 ((bytesRow s cap).size, (bytesRow s cap).size + 1)) := _root_.Go.heap_alloc_new w _
      unfold World.frozen?
      rw [hh]
      have hlt : ¬ (bytesRow s cap).size ≤ j := by omega
      simp [hlt]
  have HB0 : Hid (Below w.heap.size w (w.alloc (.cells (bytesRow s cap) 5 ((bytesRow s cap).size, (bytesRow s cap).size + 1))).drew) := ((Below.refl _ _).alloc (Nat.le_refl _) _).drew
  clear hcv hcap
  have hlm : (lim : Int) ≤ 32 := by omega
  go_loopw [8, 9, 18] (fun _ _ i wr => ∃ n : Nat, n ≤ lim ∧ i = .int .i64 n ∧ TB wr w.heap.size (turnTo s.data.toList at' (mbit m) n) ∧ Below w.heap.size w wr) (fun _ _ i _ => lim - (intOf i).toNat)
  case atStart => exact ⟨0, by omega, rfl, HTB.out, HB0.out⟩
  case round =>
    obtain ⟨n, hn, rfl, hTB, hB⟩ := hrel
    have HB := hide hB
    have hlen := turnTo_length s.data.toList at' (mbit m) n
    rw [hl] at hlen
    clear HTB HB0
    by_cases hlt : n < lim
    · have hand := and_one32 ((m : Int) / 2 ^ n)
      have hi : (at' + n) / 8 < s.size := by omega
      have hc := hTB.cell ((at' + n) / 8) (by omega)
      have hf := hTB.fr ((at' + n) / 8) (by omega)
      have hq9 : ((at' : Int) + (n : Int)) / 8 < (s.size : Int) := by omega
      have h08 : 0 ≤ ((at' : Int) + (n : Int)) / 8 := by omega
      have htn : (((at' : Int) + (n : Int)) / 8).toNat = (at' + n) / 8 := by omega
      have hw8 : IntKind.i64.wrap (((at' : Int) + (n : Int)) / 8) = ((at' : Int) + (n : Int)) / 8 := by rw [IntKind.wrap_i64]; omega
      have hwa : IntKind.i64.wrap ((at' : Int) + (n : Int)) = (at' : Int) + (n : Int) := by rw [IntKind.wrap_i64]; omega
      have hn5 : (n : Int) < 32 := by omega
      have hn6 : (n : Int) < (lim : Int) := by omega
      generalize hold : (turnTo s.data.toList at' (mbit m) n).getD ((at' + n) / 8) 0 = old at *
      have HOld := hide hold
      clear hold
      by_cases hb : (m : Int) / 2 ^ n % 2 = 1
      · rw [hb] at hand
        have hT1 := (hTB.set ((at' + n) / 8) (by omega) (old ^^^ UInt8.ofNat (2 ^ ((at' + n) % 8)))).drew
        have hxp := xor_pow old ((at' + n) % 8) (Nat.mod_lt _ (by decide))
        rw [← hxp] at hT1
        have HT1 : Hid (TB (wr.setCell ⟨w.heap.size, (at' + n) / 8, none⟩ (.int .u8 (Go.bits .xor .u8 (old.toNat : Int) (2 ^ ((at' + n) % 8) % 256)))).drew w.heap.size (turnTo s.data.toList at' (mbit m) (n + 1))) := by
          have e : turnTo s.data.toList at' (mbit m) (n + 1) = (turnTo s.data.toList at' (mbit m) n).set ((at' + n) / 8) (((turnTo s.data.toList at' (mbit m) n).getD ((at' + n) / 8) 0) ^^^ UInt8.ofNat (2 ^ ((at' + n) % 8))) := by
            rw [turnTo, if_pos ⟨decide_eq_true hb, by rw [hl]; exact hi⟩]
          rw [e, HOld.out]; exact hT1
        have HB1 : Hid (Below w.heap.size w (wr.setCell ⟨w.heap.size, (at' + n) / 8, none⟩ (.int .u8 (Go.bits .xor .u8 (old.toNat : Int) (2 ^ ((at' + n) % 8) % 256)))).drew) := (HB.out.setCell (p := ⟨w.heap.size, (at' + n) / 8, none⟩) (Nat.le_refl _) _).drew
        clear hT1 hxp hTB hB
        go_wp2
        go_region
        go_wp2
        go_roundw
        case rel => exact ⟨n + 1, by omega, by go_num, HT1.out, HB1.out⟩
        case measure => simp [intOf]; omega
      · have hb0 : (m : Int) / 2 ^ n % 2 = 0 := by omega
        rw [hb0] at hand
        have hx0 := xor_zero8 old
        have HT1 : Hid (TB (wr.setCell ⟨w.heap.size, (at' + n) / 8, none⟩ (.int .u8 (old.toNat : Int))).drew w.heap.size (turnTo s.data.toList at' (mbit m) (n + 1))) := by
          have e : turnTo s.data.toList at' (mbit m) (n + 1) = (turnTo s.data.toList at' (mbit m) n).set ((at' + n) / 8) old := by
            rw [turnTo, if_neg (fun h => hb (of_decide_eq_true h.1)), ← HOld.out]
            have hlt2 : (at' + n) / 8 < (turnTo s.data.toList at' (mbit m) n).length := by omega
            rw [List.getD_eq_getElem?_getD, List.getElem?_eq_getElem hlt2]
            exact (List.set_getElem_self hlt2).symm
          rw [e]; exact (hTB.set ((at' + n) / 8) (by omega) old).drew
        have HB1 : Hid (Below w.heap.size w (wr.setCell ⟨w.heap.size, (at' + n) / 8, none⟩ (.int .u8 (old.toNat : Int))).drew) := (HB.out.setCell (p := ⟨w.heap.size, (at' + n) / 8, none⟩) (Nat.le_refl _) _).drew
        clear hTB hB
        go_wp2
        go_region
        go_wp2
        go_roundw
        case rel => exact ⟨n + 1, by omega, by go_num, HT1.out, HB1.out⟩
        case measure => simp [intOf]; omega
    · have hn2 : n = lim := by omega
      subst hn2
      have hcv := run_convert_bytes_back (P := Tryz.prog) wr 83 9 5 ⟨w.heap.size, 0, none⟩ cap (turnTo s.data.toList at' (mbit m) n) Tryz.underlying83 Tryz.underlying5 Tryz.underlying9 (fun j hj => by
        have := hTB.cell j hj
        rw [List.getD_eq_getElem?_getD, List.getElem?_eq_getElem hj] at this
        have e : (⟨w.heap.size, 0, none⟩ : Addr).add j = ⟨w.heap.size, j, none⟩ := by simp [Addr.add]; exact fun h => h.symm
        rw [e]; exact this)
      rw [hlen] at hcv
      have HE := HEq.out
      clear hTB hB
      go_wp2
      go_ret
      exact ⟨by rw [← HE]; rfl, HB.out⟩
end Go.Proofs.YtamcclcbmenjdaaGreatDoor

/- What is under way: Spoil. -/
namespace Go.Proofs.YtamcclcbmenjdaaGreatDoor
open Go.RowKit Go.Lib

/-- A message of which bits were turned. -/
def Msg.spoil (m : Msg) (a k : Nat) : Msg := { m with by_ := BA (turnTo m.by_.data.toList a (mbit k) 32), sp := 1 }
def SpoilOf (ms ms' : List Msg) : Prop := ms' = ms ∨ ∃ k m a q, ms[k]? = some m ∧ m.sp ≠ 1 ∧ ms' = ms.set k (m.spoil a q)
def SpoilEnd (W w' : World) (cb : Nat) (ms : List Msg) (e : Ending) : Prop := ∃ n ms', e = .returned (.int .i64 (n : Nat)) ∧ SpoilOf ms ms' ∧ WayAt w' cb ms' ∧ Turn W w' cb 15 136
theorem WayAt.turn {w : World} {cb k : Nat} {ms : List Msg} (h : WayAt w cb ms) (hk : k < ms.length) (b : ByteArray) :
    WayAt ((w.setCell ⟨cb, 15 + k * 4 + 2, none⟩ (.string b)).setCell ⟨cb, 15 + k * 4 + 3, none⟩ (.int .i64 1)) cb (ms.set k { ms[k] with by_ := b, sp := 1 }) ∧
      Turn w ((w.setCell ⟨cb, 15 + k * 4 + 2, none⟩ (.string b)).setCell ⟨cb, 15 + k * 4 + 3, none⟩ (.int .i64 1)) cb (15 + k * 4) (15 + k * 4 + 4) := by
  have t : Turn w ((w.setCell ⟨cb, 15 + k * 4 + 2, none⟩ (.string b)).setCell ⟨cb, 15 + k * 4 + 3, none⟩ (.int .i64 1)) cb (15 + k * 4) (15 + k * 4 + 4) := ((Turn.refl w cb _ _).set _ _ (by omega) (by omega)).set _ _ (by omega) (by omega)
  have hn := h.n
  refine ⟨⟨by simpa using h.n, ?_, fun i hi => ?_, fun j h1 h2 => ?_, fun i => (t.frozen i).trans (h.fr i)⟩, t⟩
  · rw [List.length_set]; exact (t.cells _ (by omega)).trans h.cnt
  · have hi' : i < ms.length := by simpa using hi
    by_cases e : i = k
    · subst e
      rw [List.getElem_set_self]
      have hm := h.msg i hi'
      exact ⟨by rw [cell_ne (by omega), cell_ne (by omega)]; exact hm.c0, by rw [cell_ne (by omega), cell_ne (by omega)]; exact hm.c1, by rw [cell_ne (by omega)]; exact World.cell?_setCell_same _ _ _ hm.c2, World.cell?_setCell_same _ _ _ ((cell_ne (by omega)).trans hm.c3)⟩
    · rw [List.getElem_set_ne (fun h => e h.symm)]
      exact (h.msg i hi').turn t (by omega)
  · obtain ⟨v, hv⟩ := h.there j h1 h2
    obtain ⟨v, hv⟩ := there_set (i := 15 + k * 4 + 2) (v := .string b) hv
    exact there_set hv

set_option maxRecDepth 100000 in
set_option maxHeartbeats 1000000 in
theorem wSpoil_any (W : World) (cb : Nat) (i at' mask : Int) (ms : List Msg) (h : WayAt W cb ms) (hz : ∀ m ∈ ms, m.by_.size ≤ 1000000) :
    Calls Tryz.prog 92 #[.pointer (some ⟨cb, 15, none⟩), .int .i64 i, .int .i64 at', .int .i64 mask] W fun e w' => SpoilEnd W w' cb ms e := by
  have C := hide (isThere_any W cb i ms h)
  have H := hide h
  have hn := h.n
  clear h
  by_cases hi : 0 ≤ i ∧ i < ms.length
  · obtain ⟨k, rfl⟩ : ∃ k : Nat, i = k := ⟨i.toNat, by omega⟩
    have hk : k < ms.length := by omega
    have HG : Hid (ms[k]? = some ms[k]) := List.getElem?_eq_getElem hk
    have c2 := (H.out.msg k hk).c2
    have c3 := (H.out.msg k hk).c3
    have f2 := H.out.fr (15 + k * 4 + 2)
    have f3 := H.out.fr (15 + k * 4 + 3)
    have hsz := hz _ (List.getElem_mem hk)
    simp only [hi, decide_true, and_self] at C
    have hk30 : (k : Int) < 30 := by omega
    have hk0 : k < 30 := by omega
    have HTn := hide (fun b => H.out.turn hk b)
    clear hi hz
    generalize hm : ms[k] = m at *
    have HTn2 := hide HTn
    clear HTn
    by_cases hs1 : m.sp = 1
    · rw [hs1] at c3
      go_enter Tryz.func92, Tryz.ntmps92
      go_wp2_with fail
      refine C.out.mono ?_
      rintro e w1 ⟨rfl, rfl⟩
      clear C
      go_wp2
      go_ret
      exact ⟨7, ms, rfl, .inl rfl, H.out, Turn.refl _ _ _ _⟩
    · have hs1i : ¬ ((m.sp : Int) = 1) := by omega
      by_cases hat : 0 ≤ at' ∧ at' < 8 * (m.by_.size : Int) ∧ mask % 4294967296 ≠ 0
      · obtain ⟨h0, h8, hm0⟩ := hat
        obtain ⟨a, rfl⟩ : ∃ a : Nat, at' = a := ⟨at'.toNat, by omega⟩
        obtain ⟨q, hq⟩ : ∃ q : Nat, mask % 4294967296 = q := ⟨(mask % 4294967296).toNat, by omega⟩
        have hq0 : ¬ ((q : Int) = 0) := by omega
        have h0n : ¬ ((a : Int) < 0) := by omega
        have h8n : ¬ (8 * (m.by_.size : Int) ≤ (a : Int)) := by omega
        have h0b : decide ((a : Int) < 0) = false := decide_eq_false h0n
        have h8b : decide (8 * (m.by_.size : Int) ≤ (a : Int)) = false := decide_eq_false h8n
        have hqb : ((q : Int) == 0) = false := by simpa using hq0
        have C2 := hide (turn_any m.by_ a q W hsz (by omega))
        have HSp : Hid (SpoilOf ms (ms.set k (m.spoil a q))) := .inr ⟨k, m, a, q, HG.out, hs1, rfl⟩
        unfold Msg.spoil at HSp
        go_enter Tryz.func92, Tryz.ntmps92
        go_wp2_with fail
        refine C.out.mono ?_
        rintro e w1 ⟨rfl, rfl⟩
        clear C
        go_wp2_with fail
        refine C2.out.mono ?_
        rintro e w1 ⟨rfl, hb1⟩
        have H1 := hide (H.out.below hb1)
        have e1 := (hb1.cell (p := ⟨cb, 15 + k * 4 + 2, none⟩) H.out.lt).trans c2
        have e2 := (hb1.cell (p := ⟨cb, 15 + k * 4 + 3, none⟩) H.out.lt).trans c3
        have g1 := H1.out.fr (15 + k * 4 + 2)
        have g2 := H1.out.fr (15 + k * 4 + 3)
        have HN := hide (H1.out.turn hk (BA (turnTo m.by_.data.toList a (mbit q) 32)))
        rw [hm] at HN
        have HT1 := hide ((Turn.of_below (lo := 15) (hi := 136) hb1 H.out.lt).trans (HN.out.2.wider (by omega) (by omega)))
        generalize BA (turnTo m.by_.data.toList a (mbit q) 32) = tb at *
        clear hb1 C2 c2 c3 f2 f3
        go_wp2
        go_ret
        exact ⟨0, _, rfl, HSp.out, HN.out.1, HT1.out⟩
      · by_cases h0 : at' < 0
        · skip
          go_enter Tryz.func92, Tryz.ntmps92
          go_wp2_with fail
          refine C.out.mono ?_
          rintro e w1 ⟨rfl, rfl⟩
          clear C
          go_wp2
          go_ret
          exact ⟨8, ms, rfl, .inl rfl, H.out, Turn.refl _ _ _ _⟩
        · by_cases h8 : 8 * (m.by_.size : Int) ≤ at'
          · skip
            go_enter Tryz.func92, Tryz.ntmps92
            go_wp2_with fail
            refine C.out.mono ?_
            rintro e w1 ⟨rfl, rfl⟩
            clear C
            go_wp2
            go_ret
            exact ⟨8, ms, rfl, .inl rfl, H.out, Turn.refl _ _ _ _⟩
          · have hm0 : mask % 4294967296 = 0 := by omega
            go_enter Tryz.func92, Tryz.ntmps92
            go_wp2_with fail
            refine C.out.mono ?_
            rintro e w1 ⟨rfl, rfl⟩
            clear C
            go_wp2
            go_ret
            exact ⟨8, ms, rfl, .inl rfl, H.out, Turn.refl _ _ _ _⟩
  · have hd : decide (0 ≤ i ∧ i < ms.length) = false := by simp only [hi, decide_false]
    rw [hd] at C
    clear hi hd
    go_enter Tryz.func92, Tryz.ntmps92
    go_wp2_with fail
    refine C.out.mono ?_
    rintro e w1 ⟨rfl, rfl⟩
    clear C
    go_wp2
    go_ret
    exact ⟨7, ms, rfl, .inl rfl, H.out, Turn.refl _ _ _ _⟩
end Go.Proofs.YtamcclcbmenjdaaGreatDoor

/- What is under way: List. -/
namespace Go.Proofs.YtamcclcbmenjdaaGreatDoor
open Go.RowKit Go.Lib

/-- A message as it is told. -/
def Msg.cs3 (m : Msg) : List Value := [.int .i64 m.fr, .int .i64 m.to, .string m.by_]
def toldM (ms : List Msg) : List Value := ms.flatMap Msg.cs3
theorem toldM_snoc (l : List Msg) (m : Msg) : toldM (l ++ [m]) = toldM l ++ [.int .i64 m.fr, .int .i64 m.to, .string m.by_] := by simp [toldM, Msg.cs3]
theorem one_three {a b c : Value} (ha : a.oneCell' = true) (hb : b.oneCell' = true) (hc : c.oneCell' = true) : ∀ u ∈ [a, b, c], u.oneCell' = true := by
  intro u hu
  simp only [List.mem_cons, List.not_mem_nil, or_false] at hu
  rcases hu with rfl | rfl | rfl
  · exact ha
  · exact hb
  · exact hc
theorem infoM : (Tryz.prog.info? 99).map (fun i => (i.zero, i.size, i.bytes)) = some (some (.agg #[.int .i64 0, .int .i64 0, .string ByteArray.empty]), 3, 32) := by kernel_rfl

set_option maxRecDepth 100000 in
set_option maxHeartbeats 1000000 in
theorem list_any (W : World) (cb : Nat) (ms : List Msg) (h : WayAt W cb ms) (hz : ∀ m ∈ ms, m.by_.size ≤ 1000000) :
    Calls Tryz.prog 73 #[.pointer (some ⟨cb, 15, none⟩)] W fun e w' => ∃ v', e = .returned v' ∧ w'.ownsRow W.heap.size 99 3 v' ms.length (toldM ms) ∧ Below W.heap.size W w' := by
  obtain ⟨i0, hi, hz0, hz1, hz2⟩ := info_parts infoM
  have H := hide h
  have HZ := hide hz
  have hn := h.n
  have c := h.cnt
  have hn3 : (ms.length : Int) ≤ 30 := by omega
  have hlt := h.lt
  have hsz : W.heap.size ≤ W.heap.size := Nat.le_refl _
  clear h hz
  go_enter Tryz.func73, Tryz.ntmps73
  go_wp2_with (first | (at_make; refine wpList_make_own _ rfl _ _ 71 rfl W.heap.size 99 i0 _ 3 Tryz.underlying71 hi hz0 hz1 .i64 .i64 _ ms.length rfl rfl rfl (by rw [hz2]; omega) (by unfold maxLen; omega) hsz ?_; intro w2 hown2 hgrow2))
  have HO2 := hide hown2
  have HB2 : Hid (Below W.heap.size W w2) := (Below.refl _ _).grown hgrow2 (Nat.le_refl _) (fun k e => (by cases e))
  have c2 := (H.out.below HB2.out).cnt
  clear hown2 hgrow2 c
  go_wp2
  go_region
  go_wp2
  go_loopw [3, 5, 20] (fun o _ i wr => ∃ k g cap : Nat, k ≤ ms.length ∧ i = .int .i64 k ∧ o = .slice (some ⟨g, 0, none⟩) k cap ∧ Hid (wr.ownsRow W.heap.size 99 3 (.slice (some ⟨g, 0, none⟩) k cap) k (toldM (ms.take k))) ∧ Hid (Below W.heap.size W wr)) (fun _ _ i _ => ms.length - (intOf i).toNat)
  case atStart => exact ⟨0, W.heap.size, ms.length, Nat.zero_le _, rfl, rfl, HO2.out, HB2.out.drew⟩
  case round =>
    clear HO2 HB2
    obtain ⟨k, g, cap, hk, rfl, rfl, HO, HB⟩ := hrel
    by_cases hlt2 : k < ms.length
    · obtain ⟨x, hx⟩ : ∃ x, ms[k]? = some x := ⟨_, List.getElem?_eq_getElem hlt2⟩
      have hxe : ms[k] = x := (List.getElem?_eq_some_iff.1 hx).2
      have hm := (H.out.below HB.out).msg k hlt2
      rw [hxe] at hm
      have k0 := hm.c0
      have k1 := hm.c1
      have k2 := hm.c2
      have k3 := hm.c3
      have hxt := HZ.out x (List.mem_of_getElem? hx)
      have HTk := hide (take_more ms k x hx)
      have hws := HB.out.size
      have i1 : (k : Int) < (ms.length : Int) := by omega
      obtain ⟨fr, to, b, sp⟩ := x
      simp only at k0 k1 k2 k3 hxt
      clear hm hx hxe c2
      go_wp2
      have hg := World.ownsRow.lt HO.out g rfl
      have HO1 := hide (own_alloc HO.out (.cells #[.int .i64 fr, .int .i64 to, .string b, .int .i64 sp] 121))
      have s0 : (wr.alloc (.cells #[.int .i64 fr, .int .i64 to, .string b, .int .i64 sp] 121)).cell? ⟨wr.heap.size, 0, none⟩ = some (.int .i64 fr) := World.cell?_alloc_new _ _ _ 0
      have s1 : (wr.alloc (.cells #[.int .i64 fr, .int .i64 to, .string b, .int .i64 sp] 121)).cell? ⟨wr.heap.size, 1, none⟩ = some (.int .i64 to) := World.cell?_alloc_new _ _ _ 1
      have s2 : (wr.alloc (.cells #[.int .i64 fr, .int .i64 to, .string b, .int .i64 sp] 121)).cell? ⟨wr.heap.size, 2, none⟩ = some (.string b) := World.cell?_alloc_new _ _ _ 2
      have HB1 : Hid (Below W.heap.size W (wr.alloc (.cells #[.int .i64 fr, .int .i64 to, .string b, .int .i64 sp] 121))) := HB.out.alloc hws _
      have hsb : wr.heap.size < (wr.alloc (.cells #[.int .i64 fr, .int .i64 to, .string b, .int .i64 sp] 121)).heap.size := by simp
      clear HO HB k0 k1 k2 k3
      generalize wr.alloc (.cells #[.int .i64 fr, .int .i64 to, .string b, .int .i64 sp] 121) = W1 at *
      generalize wr.heap.size = sb at *
      have CC : Hid (∀ (s : ByteArray) (W2 : World), s.size ≤ 140737488355328 → Below W1.heap.size W1 W2 → Calls Tryz.prog 103 #[.string s] W2 fun e w' => e = .returned (.string s) ∧ Below W1.heap.size W1 w') := fun s W2 hs h2 =>
        (cloned_any s W2 hs).mono fun e w' h => ⟨h.1, h2.trans (h.2.mono h2.size)⟩
      have hx1 : b.size ≤ 140737488355328 := by omega
      have hg1 := hg.1
      have hg2 := hg.2
      have hgW : g < W1.heap.size := by omega
      have hgs : g ≠ sb := by omega
      have HW1 := HB1.out.size
      clear hxt hg
      as_aux_lemma =>
        go_region_held3 (fun w' => w'.cell? ⟨sb, 0, none⟩ = some (.int .i64 fr) ∧ w'.cell? ⟨sb, 1, none⟩ = some (.int .i64 to) ∧ w'.cell? ⟨sb, 2, none⟩ = some (.string b)) (first | go_keep | (go_split_ands; refine ⟨?_, ?_, ?_⟩ <;> (rw [hgrow.cell_far _ (by simp; have := hb3.size; omega) (by intro e; exact hgs (Option.some.inj e).symm)]; first | assumption | (simp; assumption)))) (first | (go_at_call 103; refine (CC.out _ _ (by exact hx1) (by first | assumption | exact (Below.refl _ _).drew | exact Below.drew (by assumption))).mono ?_; rintro e w3 ⟨rfl, hb3⟩; have y0 := (hb3.cell (p := ⟨sb, 0, none⟩) hsb).trans s0; have y1 := (hb3.cell (p := ⟨sb, 1, none⟩) hsb).trans s1; have y2 := (hb3.cell (p := ⟨sb, 2, none⟩) hsb).trans s2) | (refine step_append_lies _ (by rfl) (.tmp 24) (.tmp 36) 71 (by rfl) W.heap.size 99 i0 (.agg #[.int .i64 0, .int .i64 0, .string ByteArray.empty]) 3 32 Tryz.underlying71 hi hz0 hz1 hz2 rfl (by decide) (.slice (some ⟨g, 0, none⟩) k cap) k (toldM (ms.take k)) (by rfl) (own_alloc (own_kept HO1.out fun q e => by cases e; exact hb3.block g hgW) _) ⟨w3.heap.size, 0, none⟩ 1 1 [.int .i64 fr, .int .i64 to, .string b] (by rfl) rfl (by exact cells_new _ _ _) (one_three rfl rfl rfl) (by decide) (by unfold maxLen; omega) (by omega) (by simp; have := hb3.size; omega) (w3.heap.size + 1) (by simp) ?_; intro g2 cap2 w5 hown5 hgrow hat hgl5) | fail)
        all_goals
          have HO5 : Hid (w5.ownsRow W.heap.size 99 3 (.slice (some ⟨g2, 0, none⟩) (k + 1) cap2) (k + 1) (toldM (ms.take (k + 1)))) := by
            rw [HTk.out, toldM_snoc]; exact hown5
          have HB5 : Hid (Below W.heap.size W w5) := ((HB1.out.trans (hb3.mono HW1)).alloc (by have := hb3.size; omega) _).grown hgrow (by simp; have := hb3.size; omega) (fun q e => by cases e; exact hg1)
          clear hown5 hgrow hat hgl5 hb3 y0 y1 y2 s0 s1 s2 CC HO1 HB1
          go_wp2
          go_roundw
          case rel => exact ⟨k + 1, g2, cap2, by omega, by go_num, rfl, HO5.out, HB5.out⟩
          case measure => simp [intOf]; omega
    · have hke : k = ms.length := by omega
      subst hke
      have HF : Hid (wr.ownsRow W.heap.size 99 3 (.slice (some ⟨g, 0, none⟩) ms.length cap) ms.length (toldM ms)) := by
        have h := HO.out
        rw [List.take_length] at h; exact h
      clear HO
      go_wp2
      go_ret
      exact ⟨_, rfl, HF.out, HB.out⟩
end Go.Proofs.YtamcclcbmenjdaaGreatDoor

/- The cluster's take, Drop, Twice, Spoil, Messages. -/
namespace Go.Proofs.YtamcclcbmenjdaaGreatDoor
open Go.RowKit Go.Lib

set_option maxRecDepth 100000 in
set_option maxHeartbeats 1000000 in
theorem ctake_any (W : World) (cb : Nat) (i : Int) (ms : List Msg) (h : WayAt W cb ms) :
    Calls Tryz.prog 67 #[.pointer (some ⟨cb, 0, none⟩), .int .i64 i] W fun e w' => TakeEnd W w' cb ms i e := by
  have hlt := h.lt
  have hb1 : Below W.heap.size W (W.alloc (.cells #[.int .i64 0, .int .i64 0, .string ⟨#[]⟩] 99)) := (Below.refl _ _).alloc (Nat.le_refl _) _
  have C := hide (wTake_any _ cb i ms (h.below hb1))
  have hA := Blk.new W 99 [.int .i64 0, .int .i64 0, .string ⟨#[]⟩]
  have hsz : (W.alloc (.cells #[.int .i64 0, .int .i64 0, .string ⟨#[]⟩] 99)).heap.size = W.heap.size + 1 := by simp
  have HA : Hid (Blk (W.alloc (.cells #[.int .i64 0, .int .i64 0, .string ⟨#[]⟩] 99)) W.heap.size 99 [.int .i64 0, .int .i64 0, .string ⟨#[]⟩]) := hA
  clear h hA
  go_enter Tryz.func67, Tryz.ntmps67
  go_wp2_with fail
  refine C.out.mono ?_
  rintro e w1 ⟨n, ms', fr, to, b, rfl, hr, hw1, ht1⟩
  have hA1 := Blk.kept HA.out (ht1.block W.heap.size (by omega) (by omega))
  have HT1 := hide ((Turn.of_below (lo := 15) (hi := 136) hb1 hlt).trans ht1)
  have HR := hide hr
  have HW1 := hide hw1
  have a0 := hA1.cell (i := 0) rfl
  have a1 := hA1.cell (i := 1) rfl
  have a2 := hA1.cell (i := 2) rfl
  have g0 := hA1.frozen 0
  have g1 := hA1.frozen 1
  have g2 := hA1.frozen 2
  have hX : Blk (((w1.setCell ⟨W.heap.size, 0, none⟩ (.int .i64 fr)).setCell ⟨W.heap.size, 1, none⟩ (.int .i64 to)).setCell ⟨W.heap.size, 2, none⟩ (.string b)) W.heap.size 99 [.int .i64 fr, .int .i64 to, .string b] := ((hA1.set 0 _).set 1 _).set 2 _
  have x0 := hX.cell (i := 0) rfl
  have x1 := hX.cell (i := 1) rfl
  have x2 := hX.cell (i := 2) rfl
  have HEnd : Hid (∀ w', w' = ((w1.setCell ⟨W.heap.size, 0, none⟩ (.int .i64 fr)).setCell ⟨W.heap.size, 1, none⟩ (.int .i64 to)).setCell ⟨W.heap.size, 2, none⟩ (.string b) → TakeEnd W w' cb ms i (.returned (.tuple #[.agg #[.int .i64 fr, .int .i64 to, .string b], .int .i64 n]))) := by
    rintro w' rfl
    refine ⟨n, ms', fr, to, b, rfl, HR.out, ?_, ((HT1.out.new hlt (Nat.le_refl _) _ _).new hlt (Nat.le_refl _) _ _).new hlt (Nat.le_refl _) _ _⟩
    refine HW1.out.same ?_
    have hne : cb ≠ W.heap.size := by omega
    rw [Below.heap_setCell _ _ _ cb hne, Below.heap_setCell _ _ _ cb hne, Below.heap_setCell _ _ _ cb hne]
  clear hr hw1 ht1 hA1 hX HA C HT1 HR HW1
  go_wp2
  refine bodyPost_ret (v := .tuple #[.agg #[.int .i64 fr, .int .i64 to, .string b], .int .i64 n]) (by simp [results, Tryz.results67, go_sem, x0, x1, x2]) rfl ?_
  exact HEnd.out _ rfl
/-- What Drop makes. -/
def DropEnd (W w' : World) (cb : Nat) (ms : List Msg) (e : Ending) : Prop := ∃ n ms', e = .returned (.int .i64 (n : Nat)) ∧ (ms' = ms ∨ ∃ k, ms' = ms.eraseIdx k) ∧ WayAt w' cb ms' ∧ Turn W w' cb 15 136
set_option maxRecDepth 100000 in
set_option maxHeartbeats 1000000 in
theorem cDrop_any (W : World) (cb : Nat) (i : Int) (ms : List Msg) (h : WayAt W cb ms) :
    Calls Tryz.prog 29 #[.pointer (some ⟨cb, 0, none⟩), .int .i64 i] W fun e w' => DropEnd W w' cb ms e := by
  have C := hide (ctake_any W cb i ms h)
  have hlt := h.lt
  clear h
  go_enter Tryz.func29, Tryz.ntmps29
  go_wp2_with fail
  refine C.out.mono ?_
  rintro e w1 ⟨n, ms', fr, to, b, rfl, hr, hw1, ht1⟩
  have HEnd : Hid (∀ w', Below w1.heap.size w1 w' → DropEnd W w' cb ms (.returned (.int .i64 n))) := fun w' hb => ⟨n, ms', rfl, by
    rcases hr with ⟨_, h, _⟩ | ⟨_, k, _, _, _, h, _⟩
    · exact .inl h
    · exact .inr ⟨k, h⟩, hw1.below hb, ht1.trans (Turn.of_below hb hw1.lt)⟩
  clear hr hw1 ht1 C
  go_wp2
  go_ret
  exact HEnd.out _ (by first | exact (Below.refl _ _).alloc (Nat.le_refl _) _ | exact Below.refl _ _)
set_option maxHeartbeats 400000 in
theorem cTwice_any (W : World) (cb : Nat) (i : Int) (ms : List Msg) (h : WayAt W cb ms) :
    Calls Tryz.prog 56 #[.pointer (some ⟨cb, 0, none⟩), .int .i64 i] W fun e w' => TwiceEnd W w' cb ms i e := by
  have C := hide (wTwice_any W cb i ms h)
  clear h
  go_enter Tryz.func56, Tryz.ntmps56
  go_wp2_with fail
  refine C.out.mono ?_
  rintro e w1 ⟨n, ms', rfl, hr, hw1, ht1⟩
  have HE : Hid (TwiceEnd W w1 cb ms i (.returned (.int .i64 n))) := ⟨n, ms', rfl, hr, hw1, ht1⟩
  clear hr hw1 ht1 C
  go_wp2
  go_ret
  exact HE.out
set_option maxHeartbeats 400000 in
theorem cSpoil_any (W : World) (cb : Nat) (i at' mask : Int) (ms : List Msg) (h : WayAt W cb ms) (hz : ∀ m ∈ ms, m.by_.size ≤ 1000000) :
    Calls Tryz.prog 57 #[.pointer (some ⟨cb, 0, none⟩), .int .i64 i, .int .i64 at', .int .i64 mask] W fun e w' => SpoilEnd W w' cb ms e := by
  have C := hide (wSpoil_any W cb i at' mask ms h hz)
  clear h hz
  go_enter Tryz.func57, Tryz.ntmps57
  go_wp2_with fail
  refine C.out.mono ?_
  rintro e w1 ⟨n, ms', rfl, hr, hw1, ht1⟩
  have HE : Hid (SpoilEnd W w1 cb ms (.returned (.int .i64 n))) := ⟨n, ms', rfl, hr, hw1, ht1⟩
  clear hr hw1 ht1 C
  go_wp2
  go_ret
  exact HE.out
set_option maxHeartbeats 400000 in
theorem cMessages_any (W : World) (cb : Nat) (ms : List Msg) (h : WayAt W cb ms) (hz : ∀ m ∈ ms, m.by_.size ≤ 1000000) :
    Calls Tryz.prog 33 #[.pointer (some ⟨cb, 0, none⟩)] W fun e w' => ∃ v', e = .returned v' ∧ w'.ownsRow W.heap.size 99 3 v' ms.length (toldM ms) ∧ Below W.heap.size W w' := by
  have C := hide (list_any W cb ms h hz)
  clear h hz
  go_enter Tryz.func33, Tryz.ntmps33
  go_wp2_with fail
  refine C.out.mono ?_
  rintro e w1 ⟨v', rfl, ho, hb⟩
  have HO := hide ho
  have HB := hide hb
  clear ho hb C
  go_wp2
  go_ret
  exact ⟨_, rfl, HO.out, HB.out⟩
end Go.Proofs.YtamcclcbmenjdaaGreatDoor

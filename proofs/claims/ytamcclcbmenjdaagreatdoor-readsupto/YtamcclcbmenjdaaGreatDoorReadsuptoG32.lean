/- 'choirlaw.Reads', for any list of texts of bulk at most 1048576: Decode answers the document's batch or error, one behind the other; lists that came out are their owner's own. The second form's statement and its card: its only condition is the row's own bound on the argument's bulk. -/
import Derived.Test.YtamcclcbmenjdaaGreatDoorReadsuptoG30
import Derived.Test.YtamcclcbmenjdaaGreatDoorReadsuptoG21
import Derived.Deep.Slices
import Derived.Deep.Strs
import Derived.OpenShut
import Derived.SizedLaws
import Derived.ProofKit
import Derived.Test.YtamcclcbmenjdaaGreatDoorRows
import Derived.Test.YtamcclcbmenjdaaGreatDoorReadsuptoG15
import Derived.Lib.LaidTab
/- The law's book: stays. -/
namespace Go.Proofs.YtamcclcbmenjdaaGreatDoor
open Go.RowKit Go.Lib

theorem own_max {w : World} {base e size n : Nat} {v : Value} {xs : List Value} (h : w.ownsRow base e size v n xs) : n ≤ maxLen := by
  rcases h.2 with ⟨_, rfl⟩ | ⟨g, cap, cur, rfl, _, _, h1, h2, _⟩
  · exact Nat.zero_le _
  · omega

set_option maxRecDepth 100000 in
set_option maxHeartbeats 2000000 in
theorem stays_any (w : World) (kb : Nat) (K : Nat → Prop) (sv lv mv : Value) (ns nl nm : Nat) (h : Book w kb K sv lv mv ns nl nm) (h1 : ns ≤ 1000000000) (h2 : nl ≤ 1000000000) (h3 : nm ≤ 1000000000) :
    Calls Tryz.prog 38 #[.pointer (some ⟨kb, 0, none⟩)] w fun e w' => e = .returned (.bool true) ∧ Below w.heap.size w w' := by
  obtain ⟨sa, sc, rfl⟩ := h.ser.shape
  obtain ⟨la, lc, rfl⟩ := h.lab.shape
  obtain ⟨ma, mc, rfl⟩ := h.sam.shape
  have H := hide h
  clear h
  obtain ⟨d0, d1, d2, d3, hkb⟩ := H.out.cells
  go_enter Tryz.func38, Tryz.ntmps38
  go_wp2
  go_loopw [3, 4, 5] (fun i _ _ wr => ∃ k : Nat, k ≤ nl ∧ i = .int .i64 k ∧ Hid (Below w.heap.size w wr)) (fun i _ _ _ => nl - (intOf i).toNat)
  case atStart => exact ⟨0, Nat.zero_le _, rfl, Below.refl _ _⟩
  case round =>
    obtain ⟨k, hk, rfl, HW⟩ := hrel
    have hsw := HW.out.size
    have e1 := (HW.out.cell (p := ⟨kb, 1, none⟩) hkb).trans d1
    by_cases hlt : k < nl
    · obtain ⟨g, cap, u, hv, c0, hg, ⟨n, hu⟩, hin⟩ := H.out.lab.get hlt
      cases hv
      obtain ⟨ua, uc, rfl⟩ := own_shape hu
      have hn := own_max hu
      have C := hide (mark_any (k / 4 * 4) wr (by omega))
      have ec : ((k / 4 * 4 : Nat) : Int) = (k : Int) / 4 * 4 := by omega
      rw [ec] at C
      have HU := hide hu
      have hnm : n ≤ 9223372036854775807 := by unfold maxLen at hn; omega
      clear hu hin hn ec
      go_wp2_with fail
      refine C.out.mono ?_
      rintro e w2 ⟨rfl, hb2⟩
      have HW2 : Hid (Below w.heap.size w w2) := HW.out.trans (hb2.mono hsw)
      have f1 := (HW2.out.cell (p := ⟨kb, 1, none⟩) hkb).trans d1
      have f2 := (HW2.out.cell (p := ⟨g, k, none⟩) hg).trans c0
      clear C hb2 HW e1 c0
      go_wp2
      go_loopw [5] (fun i w3 => ∃ j : Nat, j ≤ n ∧ i = .int .i64 j ∧ w3 = w2) (fun i _ => n - (intOf i).toNat)
      case atStart => exact ⟨0, Nat.zero_le _, rfl, rfl⟩
      case round =>
        obtain ⟨j, hj, rfl, rfl⟩ := hrel
        by_cases hjl : j < n
        · obtain ⟨g2, cap2, hv2, x0, x1⟩ := rep_cell HU.out hjl
          cases hv2
          have y0 := (HW2.out.cell (p := ⟨g2, j * 2, none⟩) (World.ownsRow.lt HU.out g2 rfl).2).trans x0
          clear x0 x1
          go_wp2
          go_roundw
          case rel => exact ⟨j + 1, by omega, by go_num, by trivial⟩
          case measure => simp [intOf]; omega
        · go_wp2
          go_roundw
          case rel => exact ⟨k + 1, by omega, by go_num, HW2.out⟩
          case measure => simp [intOf]; omega
    · go_wp2
      go_loopw [6, 7] (fun i _ wr => ∃ k : Nat, k ≤ nm ∧ i = .int .i64 k ∧ Hid (Below w.heap.size w wr)) (fun i _ _ => nm - (intOf i).toNat)
      case atStart => exact ⟨0, Nat.zero_le _, rfl, HW.out⟩
      case round =>
        clear HW hsw e1 hlt hk
        obtain ⟨k, hk, rfl, HW⟩ := hrel
        have hsw := HW.out.size
        have e1 := (HW.out.cell (p := ⟨kb, 2, none⟩) hkb).trans d2
        by_cases hlt : k < nm
        · obtain ⟨g, cap, u, hv, c0, hg, ⟨n, hu⟩, hin⟩ := H.out.sam.get hlt
          cases hv
          obtain ⟨ua, uc, rfl⟩ := own_shape hu
          have hn := own_max hu
          have f2 := (HW.out.cell (p := ⟨g, k, none⟩) hg).trans c0
          have HU := hide hu
          have hnm : n ≤ 9223372036854775807 := by unfold maxLen at hn; omega
          clear hu hin hn c0
          go_wp2
          go_loopw [7] (fun i w3 => ∃ j : Nat, j ≤ n ∧ i = .int .i64 j ∧ w3 = wr) (fun i _ => n - (intOf i).toNat)
          case atStart => exact ⟨0, Nat.zero_le _, rfl, rfl⟩
          case round =>
            obtain ⟨j, hj, rfl, rfl⟩ := hrel
            by_cases hjl : j < n
            · obtain ⟨g2, cap2, hv2, x0, x1⟩ := rep_cell HU.out hjl
              cases hv2
              have y0 := (HW.out.cell (p := ⟨g2, j * 2, none⟩) (World.ownsRow.lt HU.out g2 rfl).2).trans x0
              have ec : ((k / 4 * 4 : Nat) : Int) = (k : Int) / 4 * 4 := by omega
              rw [ec] at y0
              clear x0 x1 ec
              go_wp2
              go_roundw
              case rel => exact ⟨j + 1, by omega, by go_num, by trivial⟩
              case measure => simp [intOf]; omega
            · go_wp2
              go_roundw
              case rel => exact ⟨k + 1, by omega, by go_num, HW.out⟩
              case measure => simp [intOf]; omega
        · go_wp2
          go_loopw [8, 9, 10, 11] (fun i _ _ _ wr => ∃ k : Nat, k ≤ ns ∧ i = .int .i64 k ∧ Hid (Below w.heap.size w wr)) (fun i _ _ _ _ => ns - (intOf i).toNat)
          case atStart => exact ⟨0, Nat.zero_le _, rfl, HW.out⟩
          case round =>
            clear HW hsw e1 hlt hk
            obtain ⟨k, hk, rfl, HW⟩ := hrel
            have hsw := HW.out.size
            have e1 := (HW.out.cell (p := ⟨kb, 0, none⟩) hkb).trans d0
            by_cases hlt : k < ns
            · obtain ⟨g, cap, u, hv, c0, hg, ⟨n, lz, hu, hz, _⟩, hin⟩ := H.out.ser.get hlt
              cases hv
              obtain ⟨ua, uc, rfl⟩ := own_shape hu
              have hn := own_max hu
              obtain ⟨gz, capz, rfl, z0, z1⟩ := rep_cell hz (j := 0) (by omega)
              have hgz := (World.ownsRow.lt hz gz rfl).2
              have C := hide (mark_any (k / 4 * 4) wr (by omega))
              have ec : ((k / 4 * 4 : Nat) : Int) = (k : Int) / 4 * 4 := by omega
              rw [ec] at C
              have HU := hide hu
              have hnm : n ≤ 9223372036854775807 := by unfold maxLen at hn; omega
              clear hu hz hin hn ec z1
              go_wp2_with fail
              refine C.out.mono ?_
              rintro e w2 ⟨rfl, hb2⟩
              have HW2 : Hid (Below w.heap.size w w2) := HW.out.trans (hb2.mono hsw)
              clear C hb2 HW e1
              go_wp2
              go_loopw [10, 11] (fun i _ w3 => ∃ j : Nat, j ≤ n ∧ i = .int .i64 j ∧ Hid (Below w.heap.size w w3)) (fun i _ _ => n - (intOf i).toNat)
              case atStart => exact ⟨0, Nat.zero_le _, rfl, HW2.out⟩
              case round =>
                clear HW2
                obtain ⟨j, hj, rfl, HW2⟩ := hrel
                have s2 := HW2.out.size
                have f1 := (HW2.out.cell (p := ⟨kb, 0, none⟩) hkb).trans d0
                have f2 := (HW2.out.cell (p := ⟨g, k, none⟩) hg).trans c0
                by_cases hjl : j < n
                · obtain ⟨g2, cap2, hv2, x0, x1⟩ := rep_cell HU.out hjl
                  cases hv2
                  have hg2 := (World.ownsRow.lt HU.out g2 rfl).2
                  have y0 := (HW2.out.cell (p := ⟨g2, j * 2, none⟩) hg2).trans x0
                  have y1 := (HW2.out.cell (p := ⟨g2, j * 2 + 1, none⟩) hg2).trans x1
                  have z2 := (HW2.out.cell (p := ⟨gz, 0 * 2, none⟩) hgz).trans z0
                  have z3 := (World.cell?_alloc_old wr (.cells #[.slice (some ⟨gz, 0, none⟩) 1 capz, .slice none 0 0] 38) ⟨gz, 0 * 2, none⟩ (by show gz ≠ wr.heap.size; omega)).trans z2
                  rw [Nat.zero_mul] at z3 z2
                  have HW3 : Hid (Below w.heap.size w (wr.alloc (.cells #[.slice (some ⟨gz, 0, none⟩) 1 capz, .slice none 0 0] 38))) := HW2.out.alloc s2 _
                  clear x0 x1
                  go_wp2
                  go_roundw
                  case rel => exact ⟨j + 1, by omega, by go_num, HW3.out⟩
                  case measure => simp [intOf]; omega
                · go_wp2
                  go_roundw
                  case rel => exact ⟨k + 1, by omega, by go_num, HW2.out⟩
                  case measure => simp [intOf]; omega
            · go_wp2
              go_loopw [12, 13] (fun i _ w3 => i = .int .i64 0 ∧ w3 = wr) (fun _ _ _ => 0)
              case atStart => exact ⟨rfl, rfl⟩
              case round =>
                obtain ⟨rfl, rfl⟩ := hrel
                have e3 := (HW.out.cell (p := ⟨kb, 3, none⟩) hkb).trans d3
                go_wp2
                go_ret
                exact ⟨rfl, HW.out⟩
end Go.Proofs.YtamcclcbmenjdaaGreatDoor

/- A list of raw samples that came in. -/
namespace Go.Proofs.YtamcclcbmenjdaaGreatDoor
open Go.RowKit Go.Lib Go.ChangeShapes Go.WideShapes

theorem cellsIntR : Tryz.prog.cellsOf 3 = 1 := by kernel_rfl
theorem cellsU64R : Tryz.prog.cellsOf 32 = 1 := by kernel_rfl
theorem cellsRaw : Tryz.prog.cellsOf 91 = 3 := by kernel_rfl
theorem wf_i64 {n : Int} (h : (Lit.int .i64 n).wf = true) : -9223372036854775808 ≤ n ∧ n ≤ 9223372036854775807 := by
  simp [Lit.wf, IntKind.min, IntKind.max, IntKind.signed, IntKind.bits] at h
  omega
theorem wf_u64 {n : Int} (h : (Lit.int .u64 n).wf = true) : 0 ≤ n ∧ n ≤ 18446744073709551615 := by
  simp [Lit.wf, IntKind.min, IntKind.max, IntKind.signed, IntKind.bits] at h
  omega
/-- A list of raw samples that came in. -/
theorem raws_of {H : Type} {enc : TypeId × Value → H} {W : World} {a0 : Option Addr} {len cap : Nat} {d : DataW H} {ps : List MemPlace} (h : DataW.Trod enc Tryz.prog W 0 (fun _ => true) true 45 (.slice a0 len cap) d ps) :
    ∃ raws, RawsAt W W.heap.size (.slice a0 len cap) raws ∧ ((d = .nil ∧ raws.length = 0) ∨ ∃ elems spare, d = .slice elems spare ∧ raws.length = elems.length) := by
  obtain ⟨fuel, hf⟩ := h
  have hf' : DataW.trod enc Tryz.prog W 0 (fun _ => true) true fuel 45 [.slice a0 len cap] = some (d, ps) := hf
  rcases Go.Deep.open_slice Tryz.underlying45 hf' with ⟨hcs, hx⟩ | ⟨a, len', cap', m, n, D, Pl, hcs, hb, hl, hm, hmm, hx, hel⟩
  · cases hcs
    cases hx
    exact ⟨[], ⟨none, 0, rfl, (fun x hx => by cases hx), .inl rfl⟩, .inl ⟨rfl, rfl⟩⟩
  · cases hcs
    simp only [if_true] at hmm
    subst hmm
    have hd : d = .slice ((List.range len).map D) ((List.range (m - len)).map fun j => D (len + j)) := congrArg Prod.fst hx
    rw [cellsRaw] at hel
    have each : ∀ i, i < len → ∃ x : Int × Int × Nat, W.cell? (a.add (i * 3)) = some (.int .i64 x.1) ∧ W.cell? ((a.add (i * 3)).add 1) = some (.int .i64 x.2.1) ∧ W.cell? ((a.add (i * 3)).add 2) = some (.int .u64 (x.2.2 : Int)) ∧
        -9223372036854775808 ≤ x.1 ∧ x.1 ≤ 9223372036854775807 ∧ -9223372036854775808 ≤ x.2.1 ∧ x.2.1 ≤ 9223372036854775807 ∧ x.2.2 ≤ 18446744073709551615 := by
      intro i hi
      obtain ⟨cs', h1, h2⟩ := hel i (by omega)
      obtain ⟨_, hlen, hcell⟩ := World.cells?_some h1
      obtain ⟨y0, y1, y2, k, _, _, g0, g1, g2⟩ := Go.Deep.trod_struct3 Tryz.underlying91 h2
      simp only [cellsIntR, cellsU64R] at g0 g1 g2
      obtain ⟨m0, e0, _, w0⟩ := DataW.trod_int Tryz.underlying3 g0
      obtain ⟨m1, e1, _, w1⟩ := DataW.trod_int Tryz.underlying3 g1
      obtain ⟨m2, e2, _, w2⟩ := DataW.trod_int Tryz.underlying32 g2
      have b0 := wf_i64 w0
      have b1 := wf_i64 w1
      have b2 := wf_u64 w2
      match cs', hlen, hcell, e0, e1, e2 with
      | [c0, c1, c2], _, hcell, e0, e1, e2 =>
        simp at e0 e1 e2
        subst e0 e1 e2
        have q0 := hcell 0 (by omega)
        have q1 := hcell 1 (by omega)
        have q2 := hcell 2 (by omega)
        have z0 : (a.add (i * 3)).add 0 = a.add (i * 3) := by unfold Addr.add; simp
        rw [z0] at q0
        refine ⟨(m0, m1, m2.toNat), q0, q1, ?_, b0.1, b0.2, b1.1, b1.2, by show m2.toNat ≤ _; omega⟩
        rw [q2]
        show some (Value.int .u64 m2) = some (.int .u64 (m2.toNat : Int))
        rw [Int.toNat_of_nonneg b2.1]
    obtain ⟨F, hF⟩ := Go.Deep.choose_lt each
    refine ⟨(List.range len).map F, ⟨some a, m, by simp, fun x hx => ?_, ?_⟩, .inr ⟨_, _, hd, by simp⟩⟩
    · obtain ⟨i, hi, rfl⟩ := List.mem_map.1 hx
      exact (hF i (List.mem_range.1 hi)).2.2.2
    · by_cases h0 : len = 0
      · subst h0; exact .inl rfl
      · obtain ⟨b, o, spot⟩ := a
        have hs : spot = none := by
          have := (hF 0 (by omega)).1
          simpa [Addr.add] using World.cell?_spot this
        subst hs
        refine .inr ⟨b, o, rfl, World.block_lt_of_cell? W _ (hF 0 (by omega)).1, fun i x hx => ?_⟩
        have hi : i < len := by have := (List.getElem?_eq_some_iff.1 hx).1; simpa using this
        have e : x = F i := by
          rw [List.getElem?_map, List.getElem?_range hi] at hx
          exact (Option.some.inj hx).symm
        subst e
        have hh := hF i hi
        rw [addr_add, addr_add, addr_add] at hh
        exact ⟨hh.1, hh.2.1, hh.2.2.1⟩
theorem small_of {bs : List Ser} (h : LimitsOk bs) : Small bs := by
  have hg : ∀ s ∈ bs, s.1.length ≤ 4 ∧ s.2.length ≤ 40 := fun s hs => by
    obtain ⟨i, hi, e⟩ := List.mem_iff_getElem.1 hs
    exact h.1 i s hi (by rw [List.getElem?_eq_getElem hi, e])
  exact ⟨by have := h.2; omega, fun s hs => by have := (hg s hs).1; omega, fun s hs => by have := (hg s hs).2; omega⟩
theorem Tryz.own : ownKnob Tryz.prog.godebug = none := by kernel_rfl
theorem Tryz.laidOut : laidOutB Tryz.prog = true := by kernel_rfl
theorem Tryz.bytesRaw : Tryz.prog.bytesOf 91 = 24 := by kernel_rfl
theorem Tryz.rawReads : Tryz.prog.readableRec 45 = true := by kernel_rfl
theorem Tryz.rawType : 45 < Tryz.prog.types.size := of_decide_eq_true (by kernel_rfl)
end Go.Proofs.YtamcclcbmenjdaaGreatDoor

/- A list of texts that came in, of a bulk. -/
namespace Go.Proofs.YtamcclcbmenjdaaGreatDoor
open Go.RowKit Go.Lib Go.ChangeShapes Go.WideShapes

theorem rcellsT : Tryz.prog.cellsOf 9 = 1 := by kernel_rfl
theorem rbulk_sum {H : Type} {f : Nat → Nat} {D : Nat → DataW H} : ∀ (L : List Nat), (∀ i ∈ L, f i ≤ Rows.uptoBulk (D i)) → (L.map f).sum ≤ Rows.uptoBulkAll (L.map D)
  | [], _ => by simp
  | i :: L, h => by
    have h1 := h i (List.mem_cons_self ..)
    have h2 := rbulk_sum L fun k hk => h k (List.mem_cons_of_mem _ hk)
    rw [List.map_cons, List.map_cons, List.sum_cons, Rows.uptoBulkAll]; omega
theorem rtexts_bulk {H : Type} {enc : TypeId × Value → H} {W : World} {a0 : Option Addr} {len0 cap0 : Nat} {d : DataW H} {ps : List MemPlace} (h : DataW.Trod enc Tryz.prog W 0 (fun _ => true) true 22 (.slice a0 len0 cap0) d ps) :
    ∃ fs : List ByteArray, (.slice a0 len0 cap0 : Value) = .slice a0 fs.length cap0 ∧ (∀ i s, fs[i]? = some s → ∃ b o, a0 = some ⟨b, o, none⟩ ∧ b < W.heap.size ∧ W.cell? ⟨b, o + i, none⟩ = some (.string s)) ∧ (fs.map fun s => s.size + 1).sum ≤ Rows.uptoBulk d := by
  obtain ⟨fuel, hf⟩ := h
  have hf' : DataW.trod enc Tryz.prog W 0 (fun _ => true) true fuel 22 [.slice a0 len0 cap0] = some (d, ps) := hf
  rcases Go.Deep.open_slice Tryz.underlying22 hf' with ⟨hcs, hx⟩ | ⟨a, len, cap, m, n, D, Pl, hcs, hb, hl, hm, hmm, hx, hel⟩
  · simp only [List.cons.injEq, and_true] at hcs
    cases hcs
    exact ⟨[], rfl, (fun i s hs => by cases hs), by simp⟩
  · simp only [List.cons.injEq, and_true] at hcs
    cases hcs
    simp only [if_true] at hmm
    subst hmm
    have hd : d = .slice ((List.range len0).map D) ((List.range (m - len0)).map fun j => D (len0 + j)) := congrArg Prod.fst hx
    rw [hd]
    rw [rcellsT] at hel
    have hone : ∀ i, i < len0 → ∃ z : ByteArray, W.cell? (a.add i) = some (.string z) ∧ z.size + 1 ≤ Rows.uptoBulk (D i) := fun i hi => by
      obtain ⟨cs', h1, h2⟩ := hel i (by omega)
      obtain ⟨_, hlen, hcell⟩ := World.cells?_some h1
      match cs', hlen, hcell, h2 with
      | [c0], _, hcell, h2 =>
        have q0 := hcell 0 (by omega)
        have z0 : (a.add (i * 1)).add 0 = a.add i := by unfold Addr.add; simp
        rw [z0] at q0
        obtain ⟨s0, e0, e1, _⟩ := DataW.trod_string Tryz.underlying9 h2
        simp only [List.cons.injEq, and_true] at e0
        subst e0
        refine ⟨s0, q0, ?_⟩
        have e2 : D i = .lit (.string s0.data.toList) := congrArg Prod.fst e1
        rw [e2, Rows.uptoBulk]
        simp
    obtain ⟨F, hF⟩ := Go.Deep.choose_lt hone
    have hlen : ((List.range len0).map F).length = len0 := by simp
    refine ⟨(List.range len0).map F, by rw [hlen], fun i s hs => ?_, ?_⟩
    · have hi : i < len0 := by have := (List.getElem?_eq_some_iff.1 hs).1; simpa using this
      have e : s = F i := by
        rw [List.getElem?_map, List.getElem?_range hi] at hs
        exact (Option.some.inj hs).symm
      subst e
      obtain ⟨h1, _⟩ := hF i hi
      obtain ⟨h00, _⟩ := hF 0 (by omega)
      obtain ⟨b, o, spot⟩ := a
      have hs0 : spot = none := by simpa [Addr.add] using World.cell?_spot h00
      subst hs0
      have e3 : (⟨b, o, none⟩ : Addr).add i = ⟨b, o + i, none⟩ := by simp [Addr.add]
      rw [e3] at h1
      exact ⟨b, o, rfl, World.block_lt_of_cell? W _ h1, h1⟩
    · have h1 := rbulk_sum (f := fun i => (F i).size + 1) (D := D) (List.range len0) fun i hi => (hF i (List.mem_range.1 hi)).2
      rw [List.map_map, Rows.uptoBulk]
      have e : (List.range len0).map ((fun s : ByteArray => s.size + 1) ∘ F) = (List.range len0).map fun i => (F i).size + 1 := rfl
      rw [e]; omega
theorem rtexts_sizes {fs : List ByteArray} {n : Nat} (h : (fs.map fun s => s.size + 1).sum ≤ n) : fs.length ≤ n ∧ (fs.map (·.size)).sum ≤ n ∧ ∀ s ∈ fs, s.size ≤ n := by
  induction fs generalizing n with
  | nil => exact ⟨by simp, by simp, fun s h => by cases h⟩
  | cons s r ih =>
    rw [List.map_cons, List.sum_cons] at h
    obtain ⟨h1, h2, h3⟩ := ih (n := n - (s.size + 1)) (by omega)
    refine ⟨by rw [List.length_cons]; omega, by rw [List.map_cons, List.sum_cons]; omega, fun t ht => ?_⟩
    rcases List.mem_cons.1 ht with rfl | ht
    · omega
    · have := h3 t ht; omega
theorem Tryz.rtxtReads : Tryz.prog.readableRec 22 = true := by kernel_rfl
theorem Tryz.rtxtType : 22 < Tryz.prog.types.size := of_decide_eq_true (by kernel_rfl)
end Go.Proofs.YtamcclcbmenjdaaGreatDoor

/- What the given rows' conditions mean in memory: the tables, a list of raw samples; and packed. -/
namespace Go.Proofs.YtamcclcbmenjdaaGreatDoor
open Go.RowKit Go.Lib Go.ChangeShapes Go.WideShapes

theorem gDebType : (Tryz.prog.globals[2]?).map (·.type) = some 284 := by kernel_rfl
theorem gStepType : (Tryz.prog.globals[0]?).map (·.type) = some 244 := by kernel_rfl
theorem cellsDeb : Tryz.prog.cellsOf 284 = 64 := by kernel_rfl
theorem cellsU8 : Tryz.prog.cellsOf 5 = 1 := by kernel_rfl
theorem cellsInt : Tryz.prog.cellsOf 3 = 1 := by kernel_rfl
theorem cellsU64 : Tryz.prog.cellsOf 32 = 1 := by kernel_rfl
theorem cellsRule : Tryz.prog.cellsOf 243 = 2 := by kernel_rfl
theorem rule_cells {H : Type} {enc : TypeId × Value → H} {w : World} {base fuel : Nat} {sp : Nat → Bool} {held : Bool} {cs : List Value} {a b : Int} {x : DataW H × List MemPlace}
    (h : DataW.trod enc Tryz.prog w base sp held fuel 243 cs = some x) (hx : x.1 = .agg [.lit (.int .i64 a), .lit (.int .u64 b)]) : cs = [.int .i64 a, .int .u64 b] := by
  obtain ⟨y0, y1, n, rfl, hl, h0, h1⟩ := trod_struct2 Tryz.underlying243 h
  rw [cellsRule] at hl
  simp only [cellsInt, cellsU64] at h0 h1
  obtain ⟨m0, e0, rfl, _⟩ := DataW.trod_int Tryz.underlying3 h0
  obtain ⟨m1, e1, rfl, _⟩ := DataW.trod_int Tryz.underlying32 h1
  simp only [DataW.agg.injEq, List.cons.injEq, DataW.lit.injEq, Lit.int.injEq, true_and, and_true] at hx
  obtain ⟨rfl, rfl⟩ := hx
  match cs, hl with
  | [c0, c1], _ =>
    simp at e0 e1
    rw [e0, e1]
theorem tabs_of {W : World} (h : laidMetH Tryz.prog Rows.readsRow.laid W) : Tabs W := by
  have h' : laidMet Tryz.prog Rows.readsRow.laid W := h
  obtain ⟨ps, ⟨g1, t1, cs1, fuel1, p1, q1, hg1, ht1, hvar1, hd1, ⟨g, t, cs, fuel, p, q, hg, ht, hvar, hd, _, _⟩, _⟩, _⟩ := h'
  have e1 : some g1 = some 2 := hg1.symm.trans (by kernel_rfl)
  obtain rfl := Option.some.inj e1
  obtain rfl := Option.some.inj (gDebType.symm.trans ht1)
  have e2 : some g = some 0 := hg.symm.trans (by kernel_rfl)
  obtain rfl := Option.some.inj e2
  obtain rfl := Option.some.inj (gStepType.symm.trans ht)
  have hz : cs1.toList = (Lib.deBruijn64tab.map fun (n : Nat) => (n : Int)).map fun z => Value.int .u8 z := Lib.cells_of_tab Tryz.underlying284 Tryz.underlying5 cellsU8 cellsDeb hd1
  have htz : TabAt 2 Lib.deBruijn64tab W := fun j hj => by
    rw [World.var?_cell hg1 hvar1 j, ← Array.getElem?_toList, hz]
    simp [List.getD, hj]
  obtain ⟨xs, m, _, hx, hcl, hxl, hel⟩ := DataW.trod_array Tryz.underlying244 hd
  have hx1 : (DataW.agg (xs.map (·.1)) : DataW Unit) = Rows.laid_choir_frame_stepRules := (congrArg Prod.fst hx).symm
  rw [cellsRule] at hel
  match xs, hxl, hx1, hel with
  | [x0, x1, x2, x3, x4], _, hx1, hel =>
    simp only [Rows.laid_choir_frame_stepRules, List.map_cons, List.map_nil, DataW.agg.injEq, List.cons.injEq, and_true] at hx1
    obtain ⟨d0, d1, d2, d3, d4⟩ := hx1
    have hc : ∀ i, W.cell? ⟨0, i, none⟩ = cs.toList[i]? := fun i => by rw [World.var?_cell hg hvar i]; simp
    have r0 := rule_cells (hel 0 (by omega)) d0
    have r1 := rule_cells (hel 1 (by omega)) d1
    have r2 := rule_cells (hel 2 (by omega)) d2
    have r3 := rule_cells (hel 3 (by omega)) d3
    have r4 := rule_cells (hel 4 (by omega)) d4
    have hp : ∀ (i : Nat) (a b : Value), (cs.toList.drop (i * 2)).take 2 = [a, b] → cs.toList[i * 2]? = some a ∧ cs.toList[i * 2 + 1]? = some b := fun i a b e => by
      have e0 := congrArg (·[0]?) e
      have e1 := congrArg (·[1]?) e
      simp [List.getElem?_drop] at e0 e1
      exact ⟨by simpa using e0, by simpa using e1⟩
    have p0 := hp 0 _ _ r0
    have p1 := hp 1 _ _ r1
    have p2 := hp 2 _ _ r2
    have p3 := hp 3 _ _ r3
    have p4 := hp 4 _ _ r4
    exact ⟨(hc 0).trans p0.1, (hc 1).trans p0.2, (hc 2).trans p1.1, (hc 3).trans p1.2, (hc 4).trans p2.1, (hc 5).trans p2.2, (hc 6).trans p3.1, (hc 7).trans p3.2, (hc 8).trans p4.1, (hc 9).trans p4.2, htz⟩

set_option maxHeartbeats 400000 in
theorem packed_any (B : Nat) (v : Value) (bs : List Ser) (w : World) (hS : BatchAt w B v bs) (hB : B ≤ w.heap.size) (hT : Tabs w) (h1 : BatchOk bs) (h2 : LimitsOk bs) :
    Calls Tryz.prog 15 #[v] w fun e w' => e = .returned (.tuple #[.string (BA (frameOf (payload bs))), .bool true]) ∧ Below w.heap.size w w' := by
  have C := hide (encode_any B v bs w hS hB hT (small_of h2))
  obtain ⟨va, vc, rfl, _⟩ := id hS
  have hne : (frameOf (payload bs)).isEmpty = false := by simp [frameOf, headOf]
  have HN := hide hne
  clear hS hT hne
  go_enter Tryz.func15, Tryz.ntmps15
  go_wp2_with fail
  refine C.out.mono ?_
  rintro e w1 ⟨⟨n, hn, rfl⟩, hb⟩
  have h0 : n = 0 := by
    rcases hn with ⟨_, h⟩ | ⟨_, _, h⟩ | ⟨h, _⟩
    · exact absurd h1 h
    · exact absurd h2 h
    · exact h
  subst h0
  have HB := hide hb
  simp only [if_true]
  clear hn hb C
  go_wp2
  go_ret2
  refine ⟨?_, HB.out⟩
  show Ending.returned (Value.tuple #[.string (BA (frameOf (payload bs))), .bool (!(frameOf (payload bs)).isEmpty)]) = _
  rw [HN.out]; rfl

/-- The tables' cells, and a heap with the tables laid in it: for the witness. -/
def stepCells : Array Value := #[.int .i64 0, .int .u64 0, .int .i64 7, .int .u64 63, .int .i64 9, .int .u64 255, .int .i64 12, .int .u64 2047, .int .i64 64, .int .u64 0]
def debCells : Array Value := #[.int .u8 0, .int .u8 1, .int .u8 56, .int .u8 2, .int .u8 57, .int .u8 49, .int .u8 28, .int .u8 3, .int .u8 61, .int .u8 58, .int .u8 42, .int .u8 50, .int .u8 38, .int .u8 29, .int .u8 17, .int .u8 4, .int .u8 62, .int .u8 47, .int .u8 59, .int .u8 36, .int .u8 45, .int .u8 43, .int .u8 51, .int .u8 22, .int .u8 53, .int .u8 39, .int .u8 33, .int .u8 30, .int .u8 24, .int .u8 18, .int .u8 12, .int .u8 5, .int .u8 63, .int .u8 55, .int .u8 48, .int .u8 27, .int .u8 60, .int .u8 41, .int .u8 37, .int .u8 16, .int .u8 46, .int .u8 35, .int .u8 44, .int .u8 21, .int .u8 52, .int .u8 32, .int .u8 23, .int .u8 11, .int .u8 54, .int .u8 26, .int .u8 40, .int .u8 15, .int .u8 34, .int .u8 20, .int .u8 31, .int .u8 10, .int .u8 25, .int .u8 14, .int .u8 19, .int .u8 9, .int .u8 13, .int .u8 8, .int .u8 7, .int .u8 6]
def layTabs (h : Array Obj) : Array Obj := (h.modify 0 fun
    | .cells _ t frozen => .cells stepCells t frozen
    | o => o).modify 2 fun
    | .cells _ t frozen => .cells debCells t frozen
    | o => o
end Go.Proofs.YtamcclcbmenjdaaGreatDoor

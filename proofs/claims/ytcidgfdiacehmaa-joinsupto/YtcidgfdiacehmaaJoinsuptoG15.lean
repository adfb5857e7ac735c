/- 'choirlaw.Joins', for any two lists of series of bulk at most 1048576: Join answers the document's join or error, either way round; what is handed in stays, what comes out is its owner's. The second form's statement: its only condition is the row's own bound on the arguments' bulk. -/
import Derived.Test.YtcidgfdiacehmaaJoinsuptoG14
import Derived.Test.YtcidgfdiacehmaaJoinsuptoG8
import Derived.Deep.Slices
import Derived.OpenShut
import Derived.SizedLaws
import Derived.ProofKit
/- The law's book: stays. -/
namespace Go.Proofs.Ytcidgfdiacehmaa
open Go.RowKit Go.Lib

theorem own_max {w : World} {base e size n : Nat} {v : Value} {xs : List Value} (h : w.ownsRow base e size v n xs) : n ≤ maxLen := by
  rcases h.2 with ⟨_, rfl⟩ | ⟨g, cap, cur, rfl, _, _, h1, h2, _⟩
  · exact Nat.zero_le _
  · omega

set_option maxRecDepth 100000 in
set_option maxHeartbeats 2000000 in
theorem stays_any (w : World) (kb : Nat) (K : Nat → Prop) (sv lv mv : Value) (ns nl nm : Nat) (h : Book w kb K sv lv mv ns nl nm) (h1 : ns ≤ 1000000000) (h2 : nl ≤ 1000000000) (h3 : nm ≤ 1000000000) :
    Calls Try.prog 16 #[.pointer (some ⟨kb, 0, none⟩)] w fun e w' => e = .returned (.bool true) ∧ Below w.heap.size w w' := by
  obtain ⟨sa, sc, rfl⟩ := h.ser.shape
  obtain ⟨la, lc, rfl⟩ := h.lab.shape
  obtain ⟨ma, mc, rfl⟩ := h.sam.shape
  have H := hide h
  clear h
  obtain ⟨d0, d1, d2, d3, hkb⟩ := H.out.cells
  go_enter Try.func16, Try.ntmps16
  go_wp2
  go_loopw [3, 4, 5] (fun i _ _ wr => ∃ k : Nat, k ≤ nl ∧ i = .int .i64 k ∧ Hid (Below w.heap.size w wr)) (fun i _ _ _ => nl - (intOf i).toNat)
  case atStart => exact ⟨0, Nat.zero_le _, rfl, Below.refl _ _⟩
  case round =>
    obtain ⟨k, hk, rfl, HW⟩ := hrel
    have hsw := HW.out.size
    have e1 := (HW.out.cell (p := ⟨kb, 1, none⟩) hkb).trans d1
    by_cases hlt : k < nl
    · obtain ⟨g, cap, u, hv, c0, hg, ⟨n, hu⟩, hin⟩ := H.out.lab.get hlt
      cases hv
      obtain ⟨ua, uc, rfl⟩ := own_shape hu
      have hn := own_max hu
      have C := hide (mark_any (k / 4 * 4) wr (by omega))
      have ec : ((k / 4 * 4 : Nat) : Int) = (k : Int) / 4 * 4 := by omega
      rw [ec] at C
      have HU := hide hu
      have hnm : n ≤ 9223372036854775807 := by unfold maxLen at hn; omega
      clear hu hin hn ec
      go_wp2_with fail
      refine C.out.mono ?_
      rintro e w2 ⟨rfl, hb2⟩
      have HW2 : Hid (Below w.heap.size w w2) := HW.out.trans (hb2.mono hsw)
      have f1 := (HW2.out.cell (p := ⟨kb, 1, none⟩) hkb).trans d1
      have f2 := (HW2.out.cell (p := ⟨g, k, none⟩) hg).trans c0
      clear C hb2 HW e1 c0
      go_wp2
      go_loopw [5] (fun i w3 => ∃ j : Nat, j ≤ n ∧ i = .int .i64 j ∧ w3 = w2) (fun i _ => n - (intOf i).toNat)
      case atStart => exact ⟨0, Nat.zero_le _, rfl, rfl⟩
      case round =>
        obtain ⟨j, hj, rfl, rfl⟩ := hrel
        by_cases hjl : j < n
        · obtain ⟨g2, cap2, hv2, x0, x1⟩ := rep_cell HU.out hjl
          cases hv2
          have y0 := (HW2.out.cell (p := ⟨g2, j * 2, none⟩) (World.ownsRow.lt HU.out g2 rfl).2).trans x0
          clear x0 x1
          go_wp2
          go_roundw
          case rel => exact ⟨j + 1, by omega, by go_num, by trivial⟩
          case measure => simp [intOf]; omega
        · go_wp2
          go_roundw
          case rel => exact ⟨k + 1, by omega, by go_num, HW2.out⟩
          case measure => simp [intOf]; omega
    · go_wp2
      go_loopw [6, 7] (fun i _ wr => ∃ k : Nat, k ≤ nm ∧ i = .int .i64 k ∧ Hid (Below w.heap.size w wr)) (fun i _ _ => nm - (intOf i).toNat)
      case atStart => exact ⟨0, Nat.zero_le _, rfl, HW.out⟩
      case round =>
        clear HW hsw e1 hlt hk
        obtain ⟨k, hk, rfl, HW⟩ := hrel
        have hsw := HW.out.size
        have e1 := (HW.out.cell (p := ⟨kb, 2, none⟩) hkb).trans d2
        by_cases hlt : k < nm
        · obtain ⟨g, cap, u, hv, c0, hg, ⟨n, hu⟩, hin⟩ := H.out.sam.get hlt
          cases hv
          obtain ⟨ua, uc, rfl⟩ := own_shape hu
          have hn := own_max hu
          have f2 := (HW.out.cell (p := ⟨g, k, none⟩) hg).trans c0
          have HU := hide hu
          have hnm : n ≤ 9223372036854775807 := by unfold maxLen at hn; omega
          clear hu hin hn c0
          go_wp2
          go_loopw [7] (fun i w3 => ∃ j : Nat, j ≤ n ∧ i = .int .i64 j ∧ w3 = wr) (fun i _ => n - (intOf i).toNat)
          case atStart => exact ⟨0, Nat.zero_le _, rfl, rfl⟩
          case round =>
            obtain ⟨j, hj, rfl, rfl⟩ := hrel
            by_cases hjl : j < n
            · obtain ⟨g2, cap2, hv2, x0, x1⟩ := rep_cell HU.out hjl
              cases hv2
              have y0 := (HW.out.cell (p := ⟨g2, j * 2, none⟩) (World.ownsRow.lt HU.out g2 rfl).2).trans x0
              have ec : ((k / 4 * 4 : Nat) : Int) = (k : Int) / 4 * 4 := by omega
              rw [ec] at y0
              clear x0 x1 ec
              go_wp2
              go_roundw
              case rel => exact ⟨j + 1, by omega, by go_num, by trivial⟩
              case measure => simp [intOf]; omega
            · go_wp2
              go_roundw
              case rel => exact ⟨k + 1, by omega, by go_num, HW.out⟩
              case measure => simp [intOf]; omega
        · go_wp2
          go_loopw [8, 9, 10, 11] (fun i _ _ _ wr => ∃ k : Nat, k ≤ ns ∧ i = .int .i64 k ∧ Hid (Below w.heap.size w wr)) (fun i _ _ _ _ => ns - (intOf i).toNat)
          case atStart => exact ⟨0, Nat.zero_le _, rfl, HW.out⟩
          case round =>
            clear HW hsw e1 hlt hk
            obtain ⟨k, hk, rfl, HW⟩ := hrel
            have hsw := HW.out.size
            have e1 := (HW.out.cell (p := ⟨kb, 0, none⟩) hkb).trans d0
            by_cases hlt : k < ns
            · obtain ⟨g, cap, u, hv, c0, hg, ⟨n, lz, hu, hz, _⟩, hin⟩ := H.out.ser.get hlt
              cases hv
              obtain ⟨ua, uc, rfl⟩ := own_shape hu
              have hn := own_max hu
              obtain ⟨gz, capz, rfl, z0, z1⟩ := rep_cell hz (j := 0) (by omega)
              have hgz := (World.ownsRow.lt hz gz rfl).2
              have C := hide (mark_any (k / 4 * 4) wr (by omega))
              have ec : ((k / 4 * 4 : Nat) : Int) = (k : Int) / 4 * 4 := by omega
              rw [ec] at C
              have HU := hide hu
              have hnm : n ≤ 9223372036854775807 := by unfold maxLen at hn; omega
              clear hu hz hin hn ec z1
              go_wp2_with fail
              refine C.out.mono ?_
              rintro e w2 ⟨rfl, hb2⟩
              have HW2 : Hid (Below w.heap.size w w2) := HW.out.trans (hb2.mono hsw)
              clear C hb2 HW e1
              go_wp2
              go_loopw [10, 11] (fun i _ w3 => ∃ j : Nat, j ≤ n ∧ i = .int .i64 j ∧ Hid (Below w.heap.size w w3)) (fun i _ _ => n - (intOf i).toNat)
              case atStart => exact ⟨0, Nat.zero_le _, rfl, HW2.out⟩
              case round =>
                clear HW2
                obtain ⟨j, hj, rfl, HW2⟩ := hrel
                have s2 := HW2.out.size
                have f1 := (HW2.out.cell (p := ⟨kb, 0, none⟩) hkb).trans d0
                have f2 := (HW2.out.cell (p := ⟨g, k, none⟩) hg).trans c0
                by_cases hjl : j < n
                · obtain ⟨g2, cap2, hv2, x0, x1⟩ := rep_cell HU.out hjl
                  cases hv2
                  have hg2 := (World.ownsRow.lt HU.out g2 rfl).2
                  have y0 := (HW2.out.cell (p := ⟨g2, j * 2, none⟩) hg2).trans x0
                  have y1 := (HW2.out.cell (p := ⟨g2, j * 2 + 1, none⟩) hg2).trans x1
                  have z2 := (HW2.out.cell (p := ⟨gz, 0 * 2, none⟩) hgz).trans z0
                  have z3 := (World.cell?_alloc_old wr (.cells #[.slice (some ⟨gz, 0, none⟩) 1 capz, .slice none 0 0] 37) ⟨gz, 0 * 2, none⟩ (by show gz ≠ wr.heap.size; omega)).trans z2
                  rw [Nat.zero_mul] at z3 z2
                  have HW3 : Hid (Below w.heap.size w (wr.alloc (.cells #[.slice (some ⟨gz, 0, none⟩) 1 capz, .slice none 0 0] 37))) := HW2.out.alloc s2 _
                  clear x0 x1
                  go_wp2
                  go_roundw
                  case rel => exact ⟨j + 1, by omega, by go_num, HW3.out⟩
                  case measure => simp [intOf]; omega
                · go_wp2
                  go_roundw
                  case rel => exact ⟨k + 1, by omega, by go_num, HW2.out⟩
                  case measure => simp [intOf]; omega
            · go_wp2
              go_loopw [12, 13] (fun i _ w3 => i = .int .i64 0 ∧ w3 = wr) (fun _ _ _ => 0)
              case atStart => exact ⟨rfl, rfl⟩
              case round =>
                obtain ⟨rfl, rfl⟩ := hrel
                have e3 := (HW.out.cell (p := ⟨kb, 3, none⟩) hkb).trans d3
                go_wp2
                go_ret
                exact ⟨rfl, HW.out⟩
end Go.Proofs.Ytcidgfdiacehmaa

/- A list of series that came in: what it is in memory. -/
namespace Go.Proofs.Ytcidgfdiacehmaa
open Go.RowKit Go.Lib Go.ChangeShapes Go.WideShapes

theorem cellsStr : Try.prog.cellsOf 9 = 1 := by kernel_rfl
theorem cellsI : Try.prog.cellsOf 3 = 1 := by kernel_rfl
theorem cellsW : Try.prog.cellsOf 31 = 1 := by kernel_rfl
theorem cellsLab : Try.prog.cellsOf 60 = 2 := by kernel_rfl
theorem cellsSam : Try.prog.cellsOf 33 = 2 := by kernel_rfl
theorem cellsSer : Try.prog.cellsOf 37 = 2 := by kernel_rfl
theorem cellsLs : Try.prog.cellsOf 35 = 1 := by kernel_rfl
theorem cellsSs : Try.prog.cellsOf 34 = 1 := by kernel_rfl
theorem bytesLab : Try.prog.bytesOf 60 = 32 := by kernel_rfl
theorem bytesSam : Try.prog.bytesOf 33 = 16 := by kernel_rfl
theorem bytesSer : Try.prog.bytesOf 37 = 48 := by kernel_rfl

/-- Nothing in it is too great. -/
def Light {H : Type} (t : TypeId) (d : DataW H) : Prop := ∀ n ∈ d.weights Try.prog t, n ≤ reachBytes
theorem weights_all {H : Type} {e : TypeId} {l : List (DataW H)} {d : DataW H} (hd : d ∈ l) : ∀ n ∈ d.weights Try.prog e, n ∈ DataW.weightsAll Try.prog e l := by
  induction l with
  | nil => cases hd
  | cons a r ih =>
    intro n hn
    rw [DataW.weightsAll]
    rcases List.mem_cons.1 hd with rfl | hd
    · exact List.mem_append_left _ hn
    · exact List.mem_append_right _ (ih hd n hn)
theorem Light.elem {H : Type} {t e : TypeId} {elems spare : List (DataW H)} (hu : Try.prog.underlying t = some (.slice e)) (h : Light t (.slice elems spare)) {d : DataW H} (hd : d ∈ elems) : Light e d := fun n hn => by
  apply h
  rw [DataW.weights, hu]
  exact List.mem_cons_of_mem _ (List.mem_append_left _ (weights_all hd n hn))
theorem Light.len {H : Type} {t e : TypeId} {elems spare : List (DataW H)} (hu : Try.prog.underlying t = some (.slice e)) (h : Light t (.slice elems spare)) : elems.length * Try.prog.bytesOf e ≤ reachBytes := by
  have h1 := h ((elems.length + spare.length) * Try.prog.bytesOf e) (by rw [DataW.weights, hu]; exact List.mem_cons_self ..)
  exact Nat.le_trans (Nat.mul_le_mul_right _ (by omega)) h1
theorem Light.pair {H : Type} {t : TypeId} {f0 f1 : Field} {d0 d1 : DataW H} (hu : Try.prog.underlying t = some (.struct #[f0, f1])) (h : Light t (.agg [d0, d1])) : Light f0.type d0 ∧ Light f1.type d1 := by
  have hw : (DataW.agg [d0, d1]).weights Try.prog t = d0.weights Try.prog f0.type ++ (d1.weights Try.prog f1.type ++ []) := by
    rw [DataW.weights, hu]; rfl
  refine ⟨fun n hn => h n ?_, fun n hn => h n ?_⟩
  · rw [hw]; exact List.mem_append_left _ hn
  · rw [hw]; exact List.mem_append_right _ (List.mem_append_left _ hn)

theorem in_add (b o n : Nat) : (⟨b, o, none⟩ : Addr).add n = ⟨b, o + n, none⟩ := by
  unfold Addr.add; split <;> simp_all
/-- A slice of structs of two cells. -/
theorem slice_pairs {H : Type} {enc : TypeId × Value → H} {W : World} {T e : TypeId} (hT : Try.prog.underlying T = some (.slice e)) (he : Try.prog.cellsOf e = 2) {α : Type} [Inhabited α] (R : α → Value → Value → Prop)
    (each : ∀ (n : Nat) (c0 c1 : Value) (y : DataW H × List MemPlace), DataW.trod enc Try.prog W 0 (fun _ => true) true n e [c0, c1] = some y → Light e y.1 → ∃ z : α, R z c0 c1)
    {fuel : Nat} {cs : List Value} {x : DataW H × List MemPlace} (h : DataW.trod enc Try.prog W 0 (fun _ => true) true fuel T cs = some x) (hw : Light T x.1) :
    ∃ (a : Option Addr) (cap : Nat) (l : List α), cs = [.slice a l.length cap] ∧ l.length ≤ cap ∧ l.length * Try.prog.bytesOf e ≤ reachBytes ∧
      (l = [] ∨ ∃ b o, a = some ⟨b, o, none⟩ ∧ b < W.heap.size ∧ ∀ i z, l[i]? = some z → ∃ c0 c1, W.cell? ⟨b, o + i * 2, none⟩ = some c0 ∧ W.cell? ⟨b, o + i * 2 + 1, none⟩ = some c1 ∧ R z c0 c1) := by
  rcases Go.Deep.open_slice hT h with ⟨hcs, hx⟩ | ⟨a, len, cap, m, n, D, Pl, hcs, hb, hl, hm, hmm, hx, hel⟩
  · exact ⟨none, 0, [], hcs, Nat.le_refl _, by simp, .inl rfl⟩
  · simp only [if_true] at hmm
    subst hmm
    have hd : x.1 = .slice ((List.range len).map D) ((List.range (m - len)).map fun j => D (len + j)) := congrArg Prod.fst hx
    rw [hd] at hw
    rw [he] at hel
    have hone : ∀ i, i < len → ∃ z : α, ∃ c0 c1, W.cell? (a.add (i * 2)) = some c0 ∧ W.cell? ((a.add (i * 2)).add 1) = some c1 ∧ R z c0 c1 := fun i hi => by
      obtain ⟨cs', h1, h2⟩ := hel i (by omega)
      obtain ⟨_, hlen, hcell⟩ := World.cells?_some h1
      match cs', hlen, hcell, h2 with
      | [c0, c1], _, hcell, h2 =>
        have q0 := hcell 0 (by omega)
        have q1 := hcell 1 (by omega)
        have z0 : (a.add (i * 2)).add 0 = a.add (i * 2) := by unfold Addr.add; simp
        rw [z0] at q0
        obtain ⟨z, hz⟩ := each n c0 c1 _ h2 (hw.elem hT (List.mem_map.2 ⟨i, List.mem_range.2 hi, rfl⟩))
        exact ⟨z, c0, c1, q0, q1, hz⟩
    obtain ⟨F, hF⟩ := Go.Deep.choose_lt hone
    have hlen : ((List.range len).map F).length = len := by simp
    refine ⟨some a, m, (List.range len).map F, by rw [hlen]; exact hcs, by omega, ?_, ?_⟩
    · have := hw.len hT
      rw [hlen]
      simpa using this
    · by_cases h0 : len = 0
      · subst h0; exact .inl rfl
      · obtain ⟨b, o, spot⟩ := a
        have hs : spot = none := by
          obtain ⟨c0, c1, h1, _⟩ := hF 0 (by omega)
          simpa [Addr.add] using World.cell?_spot h1
        subst hs
        have hb0 : b < W.heap.size := by
          obtain ⟨c0, c1, h1, _⟩ := hF 0 (by omega)
          exact World.block_lt_of_cell? W _ h1
        refine .inr ⟨b, o, rfl, hb0, fun i z hz => ?_⟩
        have hi : i < len := by have := (List.getElem?_eq_some_iff.1 hz).1; simpa using this
        have e : z = F i := by
          rw [List.getElem?_map, List.getElem?_range hi] at hz
          exact (Option.some.inj hz).symm
        subst e
        obtain ⟨c0, c1, h1, h2, h3⟩ := hF i hi
        rw [in_add] at h1 h2
        rw [in_add] at h2
        exact ⟨c0, c1, h1, h2, h3⟩

theorem lab_in {H : Type} {enc : TypeId × Value → H} {W : World} (n : Nat) (c0 c1 : Value) (y : DataW H × List MemPlace) (h : DataW.trod enc Try.prog W 0 (fun _ => true) true n 60 [c0, c1] = some y) (_ : Light 60 y.1) : ∃ z : Lab, c0 = .string z.1 ∧ c1 = .string z.2 := by
  obtain ⟨y0, y1, n, rfl, hl, h0, h1⟩ := trod_struct2 Try.underlying60 h
  simp only [cellsStr] at h0 h1
  obtain ⟨s0, e0, _, _⟩ := DataW.trod_string Try.underlying9 h0
  obtain ⟨s1, e1, _, _⟩ := DataW.trod_string Try.underlying9 h1
  simp at e0 e1
  exact ⟨(s0, s1), e0, e1⟩
theorem in_i64 {n : Int} (h : (Lit.int .i64 n).wf = true) : -9223372036854775808 ≤ n ∧ n ≤ 9223372036854775807 := by
  simp [Lit.wf, IntKind.min, IntKind.max, IntKind.signed, IntKind.bits] at h
  omega
theorem in_u64 {n : Int} (h : (Lit.int .u64 n).wf = true) : 0 ≤ n ∧ n ≤ 18446744073709551615 := by
  simp [Lit.wf, IntKind.min, IntKind.max, IntKind.signed, IntKind.bits] at h
  omega
theorem sam_in {H : Type} {enc : TypeId × Value → H} {W : World} (n : Nat) (c0 c1 : Value) (y : DataW H × List MemPlace) (h : DataW.trod enc Try.prog W 0 (fun _ => true) true n 33 [c0, c1] = some y) (_ : Light 33 y.1) :
    ∃ z : Int × Nat, c0 = .int .i64 z.1 ∧ c1 = .int .u64 (z.2 : Int) ∧ -9223372036854775808 ≤ z.1 ∧ z.1 ≤ 9223372036854775807 ∧ z.2 ≤ 18446744073709551615 := by
  obtain ⟨y0, y1, n, rfl, hl, h0, h1⟩ := trod_struct2 Try.underlying33 h
  simp only [cellsI, cellsW] at h0 h1
  obtain ⟨m0, e0, _, w0⟩ := DataW.trod_int Try.underlying3 h0
  obtain ⟨m1, e1, _, w1⟩ := DataW.trod_int Try.underlying31 h1
  simp at e0 e1
  have b0 := in_i64 w0
  have b1 := in_u64 w1
  exact ⟨(m0, m1.toNat), e0, by rw [e1]; show Value.int .u64 m1 = .int .u64 (m1.toNat : Int); rw [Int.toNat_of_nonneg b1.1], b0.1, b0.2, by show m1.toNat ≤ _; omega⟩
/-- A series that came in. -/
def SerIn (W : World) (s : Ser) (c0 c1 : Value) : Prop := LabelsAt W W.heap.size c0 s.1 ∧ SamplesAt W W.heap.size c1 s.2 ∧ s.1.length * 32 ≤ reachBytes ∧ s.2.length * 16 ≤ reachBytes
theorem ser_in {H : Type} {enc : TypeId × Value → H} {W : World} (n : Nat) (c0 c1 : Value) (y : DataW H × List MemPlace) (h : DataW.trod enc Try.prog W 0 (fun _ => true) true n 37 [c0, c1] = some y) (hw : Light 37 y.1) : ∃ z : Ser, SerIn W z c0 c1 := by
  obtain ⟨y0, y1, n, rfl, hl, h0, h1⟩ := trod_struct2 Try.underlying37 h
  obtain ⟨l0, l1⟩ := hw.pair Try.underlying37
  simp only [cellsLs, cellsSs] at h0 h1 l0 l1
  obtain ⟨a, cap, l, e0, hc, hby, hcell⟩ := slice_pairs Try.underlying35 cellsLab (fun (z : Lab) c0 c1 => c0 = .string z.1 ∧ c1 = .string z.2) lab_in h0 l0
  obtain ⟨b, cap2, m, e1, hc2, hby2, hcell2⟩ := slice_pairs Try.underlying34 cellsSam (fun (z : Int × Nat) c0 c1 => c0 = .int .i64 z.1 ∧ c1 = .int .u64 (z.2 : Int) ∧ -9223372036854775808 ≤ z.1 ∧ z.1 ≤ 9223372036854775807 ∧ z.2 ≤ 18446744073709551615) sam_in h1 l1
  rw [bytesLab] at hby
  rw [bytesSam] at hby2
  simp at e0 e1
  subst e0 e1
  refine ⟨(l, m), ⟨a, cap, rfl, hc, ?_⟩, ⟨b, cap2, rfl, hc2, fun x hx => ?_, ?_⟩, hby, hby2⟩
  · rcases hcell with h | ⟨b, o, ha, hb, hh⟩
    · exact .inl h
    · refine .inr ⟨b, o, ha, hb, fun i x hx => ?_⟩
      obtain ⟨c0, c1, h1, h2, rfl, rfl⟩ := hh i x hx
      exact ⟨h1, h2⟩
  · rcases hcell2 with h | ⟨b, o, ha, hb, hh⟩
    · rw [h] at hx; cases hx
    · obtain ⟨i, hi, rfl⟩ := List.mem_iff_getElem.1 hx
      obtain ⟨c0, c1, _, _, _, _, h3⟩ := hh i _ (List.getElem?_eq_getElem hi)
      exact h3
  · rcases hcell2 with h | ⟨b, o, ha, hb, hh⟩
    · exact .inl h
    · refine .inr ⟨b, o, ha, hb, fun i x hx => ?_⟩
      obtain ⟨c0, c1, h1, h2, rfl, rfl, _⟩ := hh i x hx
      exact ⟨h1, h2⟩
/-- A list of series that came in. -/
theorem batch_in {H : Type} {enc : TypeId × Value → H} {W : World} {a0 : Option Addr} {len0 cap0 : Nat} {d : DataW H} {ps : List MemPlace} (h : DataW.Trod enc Try.prog W 0 (fun _ => true) true 22 (.slice a0 len0 cap0) d ps) (hw : Light 22 d) :
    ∃ bs : List Ser, BatchAt W W.heap.size (.slice a0 len0 cap0) bs ∧ bs.length * 48 ≤ reachBytes ∧ ∀ s ∈ bs, s.1.length * 32 ≤ reachBytes ∧ s.2.length * 16 ≤ reachBytes := by
  obtain ⟨fuel, hf⟩ := h
  have hf' : DataW.trod enc Try.prog W 0 (fun _ => true) true fuel 22 [.slice a0 len0 cap0] = some (d, ps) := hf
  obtain ⟨a, cap, l, e0, hc, hby, hcell⟩ := slice_pairs Try.underlying22 cellsSer (SerIn W) ser_in hf' hw
  rw [bytesSer] at hby
  simp only [List.cons.injEq, and_true] at e0
  rw [e0]
  refine ⟨l, ⟨a, cap, rfl, hc, ?_⟩, hby, fun s hs => ?_⟩
  · rcases hcell with h | ⟨b, o, ha, hb, hh⟩
    · exact .inl h
    · refine .inr ⟨b, o, ha, hb, fun i x hx => ?_⟩
      obtain ⟨c0, c1, h1, h2, h3, h4, _⟩ := hh i x hx
      exact ⟨c0, c1, h1, h2, h3, h4⟩
  · rcases hcell with h | ⟨b, o, ha, hb, hh⟩
    · rw [h] at hs; cases hs
    · obtain ⟨i, hi, rfl⟩ := List.mem_iff_getElem.1 hs
      obtain ⟨c0, c1, _, _, _, _, h3⟩ := hh i _ (List.getElem?_eq_getElem hi)
      exact h3
theorem light_of {H : Type} {ts : List TypeId} {ds : List (DataW H)} (h : (DataW.weightsEach Try.prog ts ds).all (· ≤ reachBytes) = true) {j : Nat} {t : TypeId} {d : DataW H} (ht : ts[j]? = some t) (hd : ds[j]? = some d) : Light t d := fun n hn => by
  have := List.all_eq_true.1 h n (DataW.weights_mem_each ht hd n hn)
  simpa using this
end Go.Proofs.Ytcidgfdiacehmaa

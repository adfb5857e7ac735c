/- 'choirlaw.Joins', for any two lists of series of bulk at most 1048576: Join answers the document's join or error, either way round; what is handed in stays, what comes out is its owner's. The second form's statement: its only condition is the row's own bound on the arguments' bulk. -/
import Derived.Test.YtcidgfdiacehmaaJoinsuptoG8
import Derived.Test.YtcidgfdiacehmaaJoinsuptoG11
import Derived.Deep.Slices
import Derived.Deep.Strs
import Derived.OpenShut
import Derived.SizedLaws
import Derived.ProofKit
/- Check of any number of lists. -/
namespace Go.Proofs.Ytcidgfdiacehmaa
open Go.RowKit Go.Lib

/-- The error of a list of series: 1 no batch, 2 beyond the limits, 0 none. -/
def Code (bs : List Ser) (n : Nat) : Prop := (n = 1 ∧ ¬ BatchOk bs) ∨ (n = 2 ∧ BatchOk bs ∧ ¬ LimitsOk bs) ∨ (n = 0 ∧ BatchOk bs ∧ LimitsOk bs)
/-- The error of several lists of series. -/
def CodeAll (bss : List (List Ser)) (n : Nat) : Prop := (n = 1 ∧ ¬ ∀ bs ∈ bss, BatchOk bs) ∨ (n = 2 ∧ (∀ bs ∈ bss, BatchOk bs) ∧ ¬ ∀ bs ∈ bss, LimitsOk bs) ∨ (n = 0 ∧ (∀ bs ∈ bss, BatchOk bs) ∧ ∀ bs ∈ bss, LimitsOk bs)
theorem mem_get {bss : List (List Ser)} {P : List Ser → Prop} (h : ∀ i bs, i < bss.length → bss[i]? = some bs → P bs) : ∀ bs ∈ bss, P bs := fun bs hb => by
  obtain ⟨i, hi, e⟩ := List.mem_iff_getElem.1 hb
  exact h i bs hi (by rw [List.getElem?_eq_getElem hi, e])
set_option maxRecDepth 100000 in
set_option maxHeartbeats 400000 in
theorem checks_any (B bb bo cap : Nat) (bss : List (List Ser)) (w : World) (hc : ∀ i bs, bss[i]? = some bs → ∃ v, w.cell? ⟨bb, bo + i, none⟩ = some v ∧ BatchAt w B v bs) (hbb : bb < w.heap.size) (hB : B ≤ w.heap.size)
    (hsm : ∀ bs ∈ bss, Small bs) (hlen : bss.length ≤ 1000) :
    Calls Try.prog 24 #[.slice (some ⟨bb, bo, none⟩) bss.length cap] w fun e w' => (∃ n : Nat, e = .returned (.int .i64 n) ∧ CodeAll bss n) ∧ Below w.heap.size w w' := by
  have HC := hide hc
  have HSm := hide hsm
  clear hc hsm
  go_enter Try.func24, Try.ntmps24
  go_wp2
  go_loopw [4, 9] (fun _ i wr => ∃ k : Nat, k ≤ bss.length ∧ i = .int .i64 k ∧ Below w.heap.size w wr ∧ Hid (∀ i bs, i < k → bss[i]? = some bs → BatchOk bs)) (fun _ i _ => bss.length - (intOf i).toNat)
  case atStart => exact ⟨0, Nat.zero_le _, rfl, Below.refl _ _, fun i x h => by omega⟩
  case round =>
    obtain ⟨k, hk, rfl, hbl, HR⟩ := hrel
    have hsz := hbl.size
    have HBl := hide hbl
    by_cases hlt : k < bss.length
    · obtain ⟨bs, hy⟩ : ∃ y, bss[k]? = some y := ⟨_, List.getElem?_eq_getElem hlt⟩
      obtain ⟨v, c1, hv⟩ := HC.out k bs hy
      have m1 := (hbl.cell (p := ⟨bb, bo + k, none⟩) hbb).trans c1
      have C1 := hide (isBatch_any B v bs wr (hv.below hbl hB) (by omega) (HSm.out bs (List.mem_of_getElem? hy)))
      obtain ⟨a, c, rfl, _⟩ := id hv
      have HY := hide hy
      clear hy hv c1 hbl
      go_wp2_with fail
      refine C1.out.mono ?_
      rintro e w1 ⟨⟨r1, rfl, hr1⟩, hb1⟩
      have HB1 := hide (HBl.out.trans (hb1.mono hsz))
      cases r1 with
      | false =>
        have hno : CodeAll bss 1 := .inl ⟨rfl, fun h => by have := hr1.2 (h bs (List.mem_of_getElem? HY.out)); cases this⟩
        have HNo := hide hno
        clear hno hr1 hb1 m1
        go_wp2
        go_ret
        exact ⟨⟨1, rfl, HNo.out⟩, HB1.out⟩
      | true =>
        have HR1 := hide (hr1.1 rfl)
        clear hr1 hb1 m1 C1
        go_wp2
        go_roundw
        case rel => exact ⟨k + 1, by omega, by go_num, HB1.out, fun i x hi hx => by
            by_cases he : i = k
            · subst he; have h := HY.out; rw [hx] at h; cases h; exact HR1.out
            · exact HR.out i x (by omega) hx⟩
        case measure => simp [intOf]; omega
    · have HA : Hid (∀ bs ∈ bss, BatchOk bs) := mem_get fun i bs hi hx => HR.out i bs (by omega) hx
      clear hbl HR
      go_wp2
      go_loopw [6, 19] (fun _ i wr => ∃ k : Nat, k ≤ bss.length ∧ i = .int .i64 k ∧ Below w.heap.size w wr ∧ Hid (∀ i bs, i < k → bss[i]? = some bs → LimitsOk bs)) (fun _ i _ => bss.length - (intOf i).toNat)
      case atStart => exact ⟨0, Nat.zero_le _, rfl, HBl.out, fun i x h => by omega⟩
      case round =>
        obtain ⟨k, hk, rfl, hbl, HR⟩ := hrel
        have hsz := hbl.size
        have HBl := hide hbl
        by_cases hlt : k < bss.length
        · obtain ⟨bs, hy⟩ : ∃ y, bss[k]? = some y := ⟨_, List.getElem?_eq_getElem hlt⟩
          obtain ⟨v, c1, hv⟩ := HC.out k bs hy
          have m1 := (hbl.cell (p := ⟨bb, bo + k, none⟩) hbb).trans c1
          have C1 := hide (withinLimits_any B v bs wr (hv.below hbl hB) (by omega) (HSm.out bs (List.mem_of_getElem? hy)).series)
          obtain ⟨a, c, rfl, _⟩ := id hv
          have HY := hide hy
          clear hy hv c1 hbl
          go_wp2_with fail
          refine C1.out.mono ?_
          rintro e w1 ⟨⟨r1, rfl, hr1⟩, hb1⟩
          have HB1 := hide (HBl.out.trans (hb1.mono hsz))
          cases r1 with
          | false =>
            have hno : CodeAll bss 2 := .inr (.inl ⟨rfl, HA.out, fun h => by have := hr1.2 (h bs (List.mem_of_getElem? HY.out)); cases this⟩)
            have HNo := hide hno
            clear hno hr1 hb1 m1
            go_wp2
            go_ret
            exact ⟨⟨2, rfl, HNo.out⟩, HB1.out⟩
          | true =>
            have HR1 := hide (hr1.1 rfl)
            clear hr1 hb1 m1 C1
            go_wp2
            go_roundw
            case rel => exact ⟨k + 1, by omega, by go_num, HB1.out, fun i x hi hx => by
                by_cases he : i = k
                · subst he; have h := HY.out; rw [hx] at h; cases h; exact HR1.out
                · exact HR.out i x (by omega) hx⟩
            case measure => simp [intOf]; omega
        · have hno : CodeAll bss 0 := .inr (.inr ⟨rfl, HA.out, mem_get fun i bs hi hx => HR.out i bs (by omega) hx⟩)
          have HNo := hide hno
          clear hno hbl HR
          go_wp2
          go_ret
          exact ⟨⟨0, rfl, HNo.out⟩, HBl.out⟩
/-- One list of series, handed over in the block bb. -/
theorem check_any (B bb : Nat) (v : Value) (bs : List Ser) (w : World) (hc : w.cell? ⟨bb, 0, none⟩ = some v) (hS : BatchAt w B v bs) (hbb : bb < w.heap.size) (hB : B ≤ w.heap.size) (hsm : Small bs) :
    Calls Try.prog 24 #[.slice (some ⟨bb, 0, none⟩) 1 1] w fun e w' => (∃ n : Nat, e = .returned (.int .i64 n) ∧ Code bs n) ∧ Below w.heap.size w w' := by
  refine (checks_any B bb 0 1 [bs] w (fun i x hx => ?_) hbb hB (fun x hx => by rw [List.mem_singleton.1 hx]; exact hsm) (by simp)).mono ?_
  · cases i with
    | zero => cases hx; exact ⟨v, hc, hS⟩
    | succ i => simp at hx
  · rintro e w' ⟨⟨n, rfl, hn⟩, hb⟩
    refine ⟨⟨n, rfl, ?_⟩, hb⟩
    simpa [CodeAll, Code] using hn
end Go.Proofs.Ytcidgfdiacehmaa

/- A list of raw samples that came in. -/
namespace Go.Proofs.Ytcidgfdiacehmaa
open Go.RowKit Go.Lib Go.ChangeShapes Go.WideShapes

theorem cellsIntR : Try.prog.cellsOf 3 = 1 := by kernel_rfl
theorem cellsU64R : Try.prog.cellsOf 31 = 1 := by kernel_rfl
theorem cellsRaw : Try.prog.cellsOf 57 = 3 := by kernel_rfl
theorem wf_i64 {n : Int} (h : (Lit.int .i64 n).wf = true) : -9223372036854775808 ≤ n ∧ n ≤ 9223372036854775807 := by
  simp [Lit.wf, IntKind.min, IntKind.max, IntKind.signed, IntKind.bits] at h
  omega
theorem wf_u64 {n : Int} (h : (Lit.int .u64 n).wf = true) : 0 ≤ n ∧ n ≤ 18446744073709551615 := by
  simp [Lit.wf, IntKind.min, IntKind.max, IntKind.signed, IntKind.bits] at h
  omega
/-- A list of raw samples that came in. -/
theorem raws_of {H : Type} {enc : TypeId × Value → H} {W : World} {a0 : Option Addr} {len cap : Nat} {d : DataW H} {ps : List MemPlace} (h : DataW.Trod enc Try.prog W 0 (fun _ => true) true 39 (.slice a0 len cap) d ps) :
    ∃ raws, RawsAt W W.heap.size (.slice a0 len cap) raws ∧ ((d = .nil ∧ raws.length = 0) ∨ ∃ elems spare, d = .slice elems spare ∧ raws.length = elems.length) := by
  obtain ⟨fuel, hf⟩ := h
  have hf' : DataW.trod enc Try.prog W 0 (fun _ => true) true fuel 39 [.slice a0 len cap] = some (d, ps) := hf
  rcases Go.Deep.open_slice Try.underlying39 hf' with ⟨hcs, hx⟩ | ⟨a, len', cap', m, n, D, Pl, hcs, hb, hl, hm, hmm, hx, hel⟩
  · cases hcs
    cases hx
    exact ⟨[], ⟨none, 0, rfl, (fun x hx => by cases hx), .inl rfl⟩, .inl ⟨rfl, rfl⟩⟩
  · cases hcs
    simp only [if_true] at hmm
    subst hmm
    have hd : d = .slice ((List.range len).map D) ((List.range (m - len)).map fun j => D (len + j)) := congrArg Prod.fst hx
    rw [cellsRaw] at hel
    have each : ∀ i, i < len → ∃ x : Int × Int × Nat, W.cell? (a.add (i * 3)) = some (.int .i64 x.1) ∧ W.cell? ((a.add (i * 3)).add 1) = some (.int .i64 x.2.1) ∧ W.cell? ((a.add (i * 3)).add 2) = some (.int .u64 (x.2.2 : Int)) ∧
        -9223372036854775808 ≤ x.1 ∧ x.1 ≤ 9223372036854775807 ∧ -9223372036854775808 ≤ x.2.1 ∧ x.2.1 ≤ 9223372036854775807 ∧ x.2.2 ≤ 18446744073709551615 := by
      intro i hi
      obtain ⟨cs', h1, h2⟩ := hel i (by omega)
      obtain ⟨_, hlen, hcell⟩ := World.cells?_some h1
      obtain ⟨y0, y1, y2, k, _, _, g0, g1, g2⟩ := Go.Deep.trod_struct3 Try.underlying57 h2
      simp only [cellsIntR, cellsU64R] at g0 g1 g2
      obtain ⟨m0, e0, _, w0⟩ := DataW.trod_int Try.underlying3 g0
      obtain ⟨m1, e1, _, w1⟩ := DataW.trod_int Try.underlying3 g1
      obtain ⟨m2, e2, _, w2⟩ := DataW.trod_int Try.underlying31 g2
      have b0 := wf_i64 w0
      have b1 := wf_i64 w1
      have b2 := wf_u64 w2
      match cs', hlen, hcell, e0, e1, e2 with
      | [c0, c1, c2], _, hcell, e0, e1, e2 =>
        simp at e0 e1 e2
        subst e0 e1 e2
        have q0 := hcell 0 (by omega)
        have q1 := hcell 1 (by omega)
        have q2 := hcell 2 (by omega)
        have z0 : (a.add (i * 3)).add 0 = a.add (i * 3) := by unfold Addr.add; simp
        rw [z0] at q0
        refine ⟨(m0, m1, m2.toNat), q0, q1, ?_, b0.1, b0.2, b1.1, b1.2, by show m2.toNat ≤ _; omega⟩
        rw [q2]
        show some (Value.int .u64 m2) = some (.int .u64 (m2.toNat : Int))
        rw [Int.toNat_of_nonneg b2.1]
    obtain ⟨F, hF⟩ := Go.Deep.choose_lt each
    refine ⟨(List.range len).map F, ⟨some a, m, by simp, fun x hx => ?_, ?_⟩, .inr ⟨_, _, hd, by simp⟩⟩
    · obtain ⟨i, hi, rfl⟩ := List.mem_map.1 hx
      exact (hF i (List.mem_range.1 hi)).2.2.2
    · by_cases h0 : len = 0
      · subst h0; exact .inl rfl
      · obtain ⟨b, o, spot⟩ := a
        have hs : spot = none := by
          have := (hF 0 (by omega)).1
          simpa [Addr.add] using World.cell?_spot this
        subst hs
        refine .inr ⟨b, o, rfl, World.block_lt_of_cell? W _ (hF 0 (by omega)).1, fun i x hx => ?_⟩
        have hi : i < len := by have := (List.getElem?_eq_some_iff.1 hx).1; simpa using this
        have e : x = F i := by
          rw [List.getElem?_map, List.getElem?_range hi] at hx
          exact (Option.some.inj hx).symm
        subst e
        have hh := hF i hi
        rw [addr_add, addr_add, addr_add] at hh
        exact ⟨hh.1, hh.2.1, hh.2.2.1⟩
theorem small_of {bs : List Ser} (h : LimitsOk bs) : Small bs := by
  have hg : ∀ s ∈ bs, s.1.length ≤ 4 ∧ s.2.length ≤ 40 := fun s hs => by
    obtain ⟨i, hi, e⟩ := List.mem_iff_getElem.1 hs
    exact h.1 i s hi (by rw [List.getElem?_eq_getElem hi, e])
  exact ⟨by have := h.2; omega, fun s hs => by have := (hg s hs).1; omega, fun s hs => by have := (hg s hs).2; omega⟩
theorem Try.own : ownKnob Try.prog.godebug = none := by kernel_rfl
theorem Try.laidOut : laidOutB Try.prog = true := by kernel_rfl
theorem Try.bytesRaw : Try.prog.bytesOf 57 = 24 := by kernel_rfl
theorem Try.rawReads : Try.prog.readableRec 39 = true := by kernel_rfl
theorem Try.rawType : 39 < Try.prog.types.size := of_decide_eq_true (by kernel_rfl)
end Go.Proofs.Ytcidgfdiacehmaa

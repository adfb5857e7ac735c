/- 'choirkeep.Level', for any list of steps (100 of them are done): when all are up, nothing is under way, and each has told each other one, all have the same, and compacted logs are the same bytes. The first form's statement and its card: no condition beside the row's own. -/
import Derived.Test.YtamcclcbmenjdaaGreatDoorLevelG22
import Derived.Test.YtamcclcbmenjdaaGreatDoorLevelG23
import Derived.Test.YtamcclcbmenjdaaGreatDoorLevelG43
/- A list of steps that came in: what it is in memory. -/
namespace Go.Proofs.YtamcclcbmenjdaaGreatDoor
open Go.RowKit Go.Lib Go.ChangeShapes Go.WideShapes

theorem cellsAct : Tryz.prog.cellsOf 60 = 5 := by kernel_rfl
theorem bytesAct : Tryz.prog.bytesOf 60 = 56 := by kernel_rfl
theorem cellsRaws : Tryz.prog.cellsOf 45 = 1 := by kernel_rfl
theorem trod_struct5 {H : Type} {enc : TypeId × Value → H} {P : Program} {w : World} {base : Nat} {spare : TypeId → Bool} {held : Bool} {t : TypeId} {f0 f1 f2 f3 f4 : Field} {fuel : Nat} {cs : List Value} {x : DataW H × List MemPlace} (ht : P.underlying t = some (.struct #[f0, f1, f2, f3, f4])) (h : DataW.trod enc P w base spare held fuel t cs = some x) :
    ∃ y0 y1 y2 y3 y4 n, x.1 = .agg [y0.1, y1.1, y2.1, y3.1, y4.1] ∧ cs.length = P.cellsOf t ∧ DataW.trod enc P w base spare held n f0.type ((cs.drop f0.offset).take (P.cellsOf f0.type)) = some y0 ∧
      DataW.trod enc P w base spare held n f1.type ((cs.drop f1.offset).take (P.cellsOf f1.type)) = some y1 ∧ DataW.trod enc P w base spare held n f2.type ((cs.drop f2.offset).take (P.cellsOf f2.type)) = some y2 ∧
      DataW.trod enc P w base spare held n f3.type ((cs.drop f3.offset).take (P.cellsOf f3.type)) = some y3 ∧ DataW.trod enc P w base spare held n f4.type ((cs.drop f4.offset).take (P.cellsOf f4.type)) = some y4 := by
  obtain ⟨xs, n, _, rfl, hl, hlen, hf⟩ := DataW.trod_struct ht h
  match xs, hlen with
  | [y0, y1, y2, y3, y4], _ => exact ⟨y0, y1, y2, y3, y4, n, by simp, hl, by simpa using hf 0 f0 rfl, by simpa using hf 1 f1 rfl, by simpa using hf 2 f2 rfl, by simpa using hf 3 f3 rfl, by simpa using hf 4 f4 rfl⟩
theorem Light.five {H : Type} {t : TypeId} {f0 f1 f2 f3 f4 : Field} {d0 d1 d2 d3 d4 : DataW H} (hu : Tryz.prog.underlying t = some (.struct #[f0, f1, f2, f3, f4])) (h : Light t (.agg [d0, d1, d2, d3, d4])) : Light f4.type d4 := fun n hn => by
  have hw : (DataW.agg [d0, d1, d2, d3, d4]).weights Tryz.prog t = d0.weights Tryz.prog f0.type ++ (d1.weights Tryz.prog f1.type ++ (d2.weights Tryz.prog f2.type ++ (d3.weights Tryz.prog f3.type ++ (d4.weights Tryz.prog f4.type ++ [])))) := by
    rw [DataW.weights, hu]; rfl
  apply h
  rw [hw]
  exact List.mem_append_right _ (List.mem_append_right _ (List.mem_append_right _ (List.mem_append_right _ (List.mem_append_left _ hn))))
theorem raws_cs {H : Type} {enc : TypeId × Value → H} {W : World} {n : Nat} {cs : List Value} {y : DataW H × List MemPlace} (h : DataW.trod enc Tryz.prog W 0 (fun _ => true) true n 45 cs = some y) (hw : Light 45 y.1) :
    ∃ (raws : List (Int × Int × Nat)) (ra : Option Addr) (rc : Nat), cs = [.slice ra raws.length rc] ∧ RawsAt W W.heap.size (.slice ra raws.length rc) raws ∧ raws.length ≤ 100000000000000 := by
  have hsh : ∃ a len cap, cs = [.slice a len cap] := by
    rcases Go.Deep.open_slice Tryz.underlying45 h with ⟨hcs, _⟩ | ⟨a, len', cap', m, n, D, Pl, hcs, _⟩
    · exact ⟨_, _, _, hcs⟩
    · exact ⟨_, _, _, hcs⟩
  obtain ⟨a, len, cap, rfl⟩ := hsh
  obtain ⟨d, ps⟩ := y
  obtain ⟨raws, hR, hlen⟩ := raws_of (H := H) ⟨n, h⟩
  obtain ⟨a', c', hv, _⟩ := id hR
  cases hv
  refine ⟨raws, a, cap, rfl, hR, ?_⟩
  rcases hlen with ⟨_, h0⟩ | ⟨elems, spare, rfl, h0⟩
  · omega
  · have h2 := hw.len Tryz.underlying45
    rw [Tryz.bytesRaw] at h2
    have := reachBytes_lt
    omega
/-- A step that came in. -/
def ActCells (W : World) (z : ActIn) (cs : List Value) : Prop := ∃ ra rc, cs = [.int .i64 z.kd, .int .i64 z.rr, .int .i64 z.a, .int .i64 z.c, .slice ra z.raws.length rc] ∧ z.Ok ∧ RawsAt W W.heap.size (.slice ra z.raws.length rc) z.raws
theorem act_in {H : Type} {enc : TypeId × Value → H} {W : World} (n : Nat) (cs : List Value) (y : DataW H × List MemPlace) (h : DataW.trod enc Tryz.prog W 0 (fun _ => true) true n 60 cs = some y) (hw : Light 60 y.1) : ∃ z : ActIn, ActCells W z cs := by
  obtain ⟨y0, y1, y2, y3, y4, n, hy, hl, h0, h1, h2, h3, h4⟩ := trod_struct5 Tryz.underlying60 h
  rw [hy] at hw
  have hw4 := hw.five Tryz.underlying60
  rw [cellsAct] at hl
  simp only [cellsIntR, cellsRaws] at h0 h1 h2 h3 h4
  obtain ⟨m0, e0, _, w0⟩ := DataW.trod_int Tryz.underlying3 h0
  obtain ⟨m1, e1, _, w1⟩ := DataW.trod_int Tryz.underlying3 h1
  obtain ⟨m2, e2, _, w2⟩ := DataW.trod_int Tryz.underlying3 h2
  obtain ⟨m3, e3, _, w3⟩ := DataW.trod_int Tryz.underlying3 h3
  obtain ⟨raws, ra, rc, e4, hR, hrl⟩ := raws_cs h4 hw4
  match cs, hl, e0, e1, e2, e3, e4 with
  | [c0, c1, c2, c3, c4], _, e0, e1, e2, e3, e4 =>
    simp at e0 e1 e2 e3 e4
    subst e0 e1 e2 e3 e4
    exact ⟨⟨m0, m1, m2, m3, raws⟩, ra, rc, rfl, ⟨wf_i64 w0, wf_i64 w1, wf_i64 w2, wf_i64 w3, hrl⟩, hR⟩
/-- A list of steps that came in. -/
theorem acts_of {H : Type} {enc : TypeId × Value → H} {W : World} {a0 : Option Addr} {len cap : Nat} {d : DataW H} {ps : List MemPlace} (h : DataW.Trod enc Tryz.prog W 0 (fun _ => true) true 53 (.slice a0 len cap) d ps) (hw : Light 53 d) :
    ∃ l, ActsAt W W.heap.size (.slice a0 len cap) l ∧ l.length ≤ 100000000000000 := by
  obtain ⟨fuel, hf⟩ := h
  have hf' : DataW.trod enc Tryz.prog W 0 (fun _ => true) true fuel 53 [.slice a0 len cap] = some (d, ps) := hf
  rcases Go.Deep.open_slice Tryz.underlying53 hf' with ⟨hcs, hx⟩ | ⟨a, len', cap', m, n, D, Pl, hcs, hb, hl, hm, hmm, hx, hel⟩
  · cases hcs
    exact ⟨[], ⟨none, 0, rfl, (fun x hx => by cases hx), .inl rfl⟩, by simp⟩
  · cases hcs
    simp only [if_true] at hmm
    subst hmm
    have hd : d = .slice ((List.range len).map D) ((List.range (m - len)).map fun j => D (len + j)) := congrArg Prod.fst hx
    rw [hd] at hw
    rw [cellsAct] at hel
    have each : ∀ i, i < len → ∃ z : ActIn, z.Ok ∧ W.cell? (a.add (i * 5)) = some (.int .i64 z.kd) ∧ W.cell? ((a.add (i * 5)).add 1) = some (.int .i64 z.rr) ∧ W.cell? ((a.add (i * 5)).add 2) = some (.int .i64 z.a) ∧ W.cell? ((a.add (i * 5)).add 3) = some (.int .i64 z.c) ∧
        ∃ rv, W.cell? ((a.add (i * 5)).add 4) = some rv ∧ RawsAt W W.heap.size rv z.raws := fun i hi => by
      obtain ⟨cs', h1, h2⟩ := hel i (by omega)
      obtain ⟨_, hlen, hcell⟩ := World.cells?_some h1
      obtain ⟨z, ra, rc, rfl, hok, hR⟩ := act_in n cs' _ h2 (hw.elem Tryz.underlying53 (List.mem_map.2 ⟨i, List.mem_range.2 hi, rfl⟩))
      have q0 := hcell 0 (by omega)
      have q1 := hcell 1 (by omega)
      have q2 := hcell 2 (by omega)
      have q3 := hcell 3 (by omega)
      have q4 := hcell 4 (by omega)
      have z0 : (a.add (i * 5)).add 0 = a.add (i * 5) := by unfold Addr.add; simp
      rw [z0] at q0
      exact ⟨z, hok, q0, q1, q2, q3, _, q4, hR⟩
    have hlen2 : len ≤ 100000000000000 := by
      have h1 := hw.len Tryz.underlying53
      rw [bytesAct] at h1
      simp at h1
      have := reachBytes_lt
      omega
    have : Inhabited ActIn := ⟨⟨0, 0, 0, 0, []⟩⟩
    obtain ⟨F, hF⟩ := Go.Deep.choose_lt each
    refine ⟨(List.range len).map F, ⟨some a, m, by simp, fun x hx => ?_, ?_⟩, by simpa using hlen2⟩
    · obtain ⟨i, hi, rfl⟩ := List.mem_map.1 hx
      exact (hF i (List.mem_range.1 hi)).1
    · by_cases h0 : len = 0
      · subst h0; exact .inl rfl
      · obtain ⟨b, o, spot⟩ := a
        have hs : spot = none := by
          have := (hF 0 (by omega)).2.1
          simpa [Addr.add] using World.cell?_spot this
        subst hs
        refine .inr ⟨b, o, rfl, World.block_lt_of_cell? W _ (hF 0 (by omega)).2.1, fun i x hx => ?_⟩
        have hi : i < len := by have := (List.getElem?_eq_some_iff.1 hx).1; simpa using this
        have e : x = F i := by
          rw [List.getElem?_map, List.getElem?_range hi] at hx
          exact (Option.some.inj hx).symm
        subst e
        have hh := (hF i hi).2
        simp only [addr_add] at hh
        exact hh
theorem Tryz.actReads : Tryz.prog.readableRec 53 = true := by kernel_rfl
theorem Tryz.actType : 53 < Tryz.prog.types.size := of_decide_eq_true (by kernel_rfl)
end Go.Proofs.YtamcclcbmenjdaaGreatDoor

/- textsOf. -/
import Derived.Test.YtcidgfdiacehmaaDoorSeries
namespace Go.Proofs.YtcidgfdiacehmaaDoor
open Go.RowKit Go.Lib

abbrev Lab := ByteArray × ByteArray
abbrev Ser := List (ByteArray × ByteArray) × List (Int × Nat)

/-- A slice value whose series lie below block B, all that they hold too. -/
def BatchAt (w : World) (B : Nat) (v : Value) (bs : List Ser) : Prop :=
  ∃ a cap, v = .slice a bs.length cap ∧ bs.length ≤ cap ∧
    (bs = [] ∨ ∃ b o, a = some ⟨b, o, none⟩ ∧ b < B ∧ ∀ i x, bs[i]? = some x → ∃ lv sv, w.cell? ⟨b, o + i * 2, none⟩ = some lv ∧ w.cell? ⟨b, o + i * 2 + 1, none⟩ = some sv ∧ LabelsAt w B lv x.1 ∧ SamplesAt w B sv x.2)
theorem BatchAt.kept {w w' : World} {B : Nat} {v : Value} {bs : List Ser} (h : BatchAt w B v bs) (hk : ∀ k, k < B → w'.heap[k]? = w.heap[k]?) : BatchAt w' B v bs := by
  obtain ⟨a, cap, hv, hc, h2⟩ := h
  refine ⟨a, cap, hv, hc, ?_⟩
  rcases h2 with h2 | ⟨b, o, ha, hbB, hcell⟩
  · exact .inl h2
  · refine .inr ⟨b, o, ha, hbB, fun i x hx => ?_⟩
    obtain ⟨lv, sv, h1, h2, h3, h4⟩ := hcell i x hx
    exact ⟨lv, sv, (World.cell?_of_block (a := ⟨b, o + i * 2, none⟩) (hk b hbB)).trans h1, (World.cell?_of_block (a := ⟨b, o + i * 2 + 1, none⟩) (hk b hbB)).trans h2, h3.kept hk, h4.kept hk⟩

theorem Tryd.infoStr : (Tryd.prog.info? 9).map (fun i => (i.zero, i.size, i.bytes)) = some (some (.string ByteArray.empty), 1, 16) := by kernel_rfl

/-- All strings of labels, in their order. -/
def labTexts (l : List Lab) : List ByteArray := l.flatMap fun x => [x.1, x.2]
def allTexts (bs : List Ser) : List ByteArray := bs.flatMap fun s => labTexts s.1
def Strs (l : List ByteArray) : List Value := l.map Value.string
theorem labTexts_take (l : List Lab) (k : Nat) (x : Lab) (h : l[k]? = some x) : labTexts (l.take (k + 1)) = labTexts (l.take k) ++ [x.1, x.2] := by
  obtain ⟨hk, hx⟩ := List.getElem?_eq_some_iff.1 h
  rw [List.take_succ_eq_append_getElem hk, hx, labTexts, List.flatMap_append]
  simp [labTexts]
theorem allTexts_take (l : List Ser) (k : Nat) (x : Ser) (h : l[k]? = some x) : allTexts (l.take (k + 1)) = allTexts (l.take k) ++ labTexts x.1 := by
  obtain ⟨hk, hx⟩ := List.getElem?_eq_some_iff.1 h
  rw [List.take_succ_eq_append_getElem hk, hx, allTexts, List.flatMap_append]
  simp [allTexts]
theorem labTexts_len (l : List Lab) : (labTexts l).length = 2 * l.length := by
  induction l with
  | nil => rfl
  | cons x r ih => simp only [labTexts, List.flatMap_cons, List.length_append, List.length_cons, List.length_nil] at ih ⊢; omega
theorem allTexts_len (bs : List Ser) (h : ∀ s ∈ bs, s.1.length ≤ 100) : (allTexts bs).length ≤ 200 * bs.length := by
  induction bs with
  | nil => simp [allTexts]
  | cons x r ih =>
    have h1 := labTexts_len x.1
    have h2 := h x (by simp)
    have h3 := ih fun s hs => h s (by simp [hs])
    simp only [allTexts, List.flatMap_cons, List.length_append, List.length_cons] at h3 ⊢
    omega

/-- A row of strings of the call's own, as far as it has come. -/
structure Txt (w : World) (W : World) (o : Value) (l : List ByteArray) : Prop where
  own : W.ownsRow w.heap.size 9 1 o l.length (Strs l)
  below : Below w.heap.size w W

theorem Txt.alloc {w W : World} {o : Value} {l : List ByteArray} (h : Txt w W o l) (ob : Obj) : Txt w (W.alloc ob) o l := ⟨h.own.alloc ob, h.below.alloc h.below.size ob⟩
theorem Txt.app {w W W' : World} {o o' : Value} {l : List ByteArray} {n : Nat} {x y : ByteArray} (h : Txt w W o l) (hown : W'.ownsRow w.heap.size 9 1 o' n (Strs l ++ [.string x, .string y])) (hg : W.grownBy W' o.ownBlock) : Txt w W' o' (l ++ [x, y]) := by
  refine ⟨?_, h.below.grown hg h.below.size fun k e => (World.ownsRow.lt h.own k e).1⟩
  have hn : n = (l ++ [x, y]).length := by have := hown.1; simp [Strs] at this; simp; omega
  have e : Strs (l ++ [x, y]) = Strs l ++ [.string x, .string y] := by simp [Strs]
  rw [e, ← hn]; exact hown

set_option maxRecDepth 100000 in
set_option maxHeartbeats 400000 in
theorem textsOf_loops (B : Nat) (v : Value) (bs : List Ser) (w : World) (hb : BatchAt w B v bs) (hB : B ≤ w.heap.size) (hbl : bs.length ≤ 100) (hll : ∀ s ∈ bs, s.1.length ≤ 100)
    (Q : Value → World → Prop) (hQ : ∀ W o, Txt w W o (allTexts bs) → Calls Tryd.prog 63 #[o] W fun e w' => e = .returned (.tuple #[]) ∧ Calls Tryd.prog 64 #[o] w' fun e w'' => ∃ t, e = .returned t ∧ Below w.heap.size w w'' ∧ Q t w'') :
    Calls Tryd.prog 46 #[v] w fun e w' => ∃ t, e = .returned t ∧ Below w.heap.size w w' ∧ Q t w' := by
  obtain ⟨i0, hi, hz0, hz1, hz2⟩ := info_parts Tryd.infoStr
  obtain ⟨a, cap, rfl, hcap, hb2⟩ := hb
  have hcS : ∀ k y, bs[k]? = some y → ∃ b o lv sa sn sc, a = some ⟨b, o, none⟩ ∧ b < B ∧ w.cell? ⟨b, o + k * 2, none⟩ = some lv ∧ w.cell? ⟨b, o + k * 2 + 1, none⟩ = some (.slice sa sn sc) ∧ LabelsAt w B lv y.1 := by
    intro k y hy
    rcases hb2 with h | ⟨b, o, ha, hbb, hc⟩
    · rw [h] at hy; cases hy
    · obtain ⟨lv, sv, h1, h2, h3, sa, sc, rfl, _⟩ := hc k y hy
      exact ⟨b, o, lv, sa, _, sc, ha, hbb, h1, h2, h3⟩
  have HC := hide hcS
  have HQ := hide hQ
  have HL := hide hll
  clear hcS hQ hb2 hll
  go_enter Tryd.func46, Tryd.ntmps46
  go_wp2
  go_loopw [3, 5, 7, 10] (fun o _ _ i wr => ∃ k : Nat, k ≤ bs.length ∧ i = .int .i64 k ∧ Txt w wr o (allTexts (bs.take k))) (fun _ _ _ i _ => bs.length - (intOf i).toNat)
  case atStart => exact ⟨0, Nat.zero_le _, rfl, ⟨World.ownsRow_nil _ _ _ _, Below.refl _ _⟩⟩
  case round =>
    obtain ⟨k, hk, rfl, hX⟩ := hrel
    have HX := hide hX
    clear hX
    by_cases hlt : k < bs.length
    · obtain ⟨y, hy⟩ : ∃ y, bs[k]? = some y := ⟨_, List.getElem?_eq_getElem hlt⟩
      obtain ⟨b, o, lv, sa, sn, sc, rfl, hbB, hc1, hc2, hL⟩ := HC.out k y hy
      have hbw : b < w.heap.size := by omega
      have m0 : wr.cell? ⟨b, o + k * 2, none⟩ = some lv := (HX.out.below.cell (p := ⟨b, o + k * 2, none⟩) hbw).trans hc1
      have m1 : wr.cell? ⟨b, o + k * 2 + 1, none⟩ = some (.slice sa sn sc) := (HX.out.below.cell (p := ⟨b, o + k * 2 + 1, none⟩) hbw).trans hc2
      have hyl := HL.out y (List.mem_of_getElem? hy)
      obtain ⟨la, lcap, rfl, hlc, hL2⟩ := hL
      have HE := hide (allTexts_take bs k y hy)
      have HL2 := hide hL2
      have hal : (allTexts (bs.take k)).length ≤ 200 * k := by
        have h1 := allTexts_len (bs.take k) (fun s hs => HL.out s (List.mem_of_mem_take hs))
        have h2 : (bs.take k).length ≤ k := List.length_take_le _ _
        omega
      have hws : w.heap.size ≤ wr.heap.size := HX.out.below.size
      clear hc1 hc2 hy hL2
      have HX1 := hide (HX.out.alloc (.cells #[.slice la y.1.length lcap, .slice sa sn sc] 46))
      go_wp2
      go_loopw [3, 7, 17] (fun o _ i wr => ∃ j : Nat, j ≤ y.1.length ∧ i = .int .i64 j ∧ Txt w wr o (allTexts (bs.take k) ++ labTexts (y.1.take j))) (fun _ _ i _ => y.1.length - (intOf i).toNat)
      case atStart => exact ⟨0, Nat.zero_le _, rfl, by simpa [labTexts] using HX1.out⟩
      case round =>
        obtain ⟨j, hj, rfl, hY⟩ := hrel
        have HY := hide hY
        clear hY HX HX1 m0 m1
        by_cases hjl : j < y.1.length
        · obtain ⟨⟨ky, vy⟩, hyj⟩ : ∃ x, y.1[j]? = some x := ⟨_, List.getElem?_eq_getElem hjl⟩
          have hc : ∃ lb lo, la = some ⟨lb, lo, none⟩ ∧ lb < B ∧ w.cell? ⟨lb, lo + j * 2, none⟩ = some (.string ky) ∧ w.cell? ⟨lb, lo + j * 2 + 1, none⟩ = some (.string vy) := by
            rcases HL2.out with h | ⟨lb, lo, ha, hlb, hcc⟩
            · rw [h] at hyj; cases hyj
            · exact ⟨lb, lo, ha, hlb, (hcc j (ky, vy) hyj).1, (hcc j (ky, vy) hyj).2⟩
          obtain ⟨lb, lo, rfl, hlb, hc1, hc2⟩ := hc
          have hlw : lb < w.heap.size := by omega
          have m0 : wr.cell? ⟨lb, lo + j * 2, none⟩ = some (.string ky) := (HY.out.below.cell (p := ⟨lb, lo + j * 2, none⟩) hlw).trans hc1
          have m1 : wr.cell? ⟨lb, lo + j * 2 + 1, none⟩ = some (.string vy) := (HY.out.below.cell (p := ⟨lb, lo + j * 2 + 1, none⟩) hlw).trans hc2
          have HF := hide (labTexts_take y.1 j (ky, vy) hyj)
          have hjl2 := labTexts_len (y.1.take j)
          have hjl3 : (y.1.take j).length ≤ j := List.length_take_le _ _
          have hln : (allTexts (bs.take k) ++ labTexts (y.1.take j)).length ≤ 30000 := by rw [List.length_append]; omega
          have hws2 : w.heap.size ≤ wr.heap.size := HY.out.below.size
          have HN := hide hln
          clear hc1 hc2 hyj hjl2 hjl3 hln hal
          go_wp2_with (first | (at_builtin; refine wpList_append_heir _ rfl (.tmp 21) (.tmp 26) 68 rfl w.heap.size 9 i0 (.string ByteArray.empty) 1 16 Tryd.underlying68 hi hz0 hz1 hz2 rfl (by decide) _ _ _ rfl ((HY.out.own.alloc _).alloc _) ⟨wr.heap.size + 1, 0, none⟩ 2 2 [.string ky, .string vy] rfl rfl ?c1 ?c2 ?c3 ?c4 ?c5 ?_))
          case c2 => exact ⟨rfl, rfl⟩
          case c3 => unfold maxLen; have h := HN.out; rw [List.length_append] at h; omega
          case c4 => have h := HN.out; rw [List.length_append] at h; omega
          case c5 => omega
          intro v5 w5 hown5 hgrow5 _
          have X5 : Txt w w5 v5 (allTexts (bs.take k) ++ labTexts (y.1.take (j + 1))) := by
            have h := ((HY.out.alloc _).alloc _).app (x := ky) (y := vy) hown5 hgrow5
            rw [HF.out, ← List.append_assoc]; exact h
          have HX5 := hide X5
          clear X5 hown5 hgrow5 m0 m1
          go_wp2
          go_roundw
          case rel => exact ⟨j + 1, by omega, by go_num, HX5.out⟩
          case measure => simp [intOf]; omega
        · have hje : j = y.1.length := by omega
          have X6 : Txt w wr u3 (allTexts (bs.take (k + 1))) := by
            have h := HY.out
            rw [hje, List.take_of_length_le (Nat.le_refl _)] at h
            rw [HE.out]; exact h
          have HX6 := hide X6
          clear X6 hje
          go_wp2
          go_roundw
          case rel => exact ⟨k + 1, by omega, by go_num, HX6.out⟩
          case measure => simp [intOf]; omega
    · have hke : k = bs.length := by omega
      have X7 : Txt w wr u3 (allTexts bs) := by
        have h := HX.out
        rw [hke, List.take_of_length_le (Nat.le_refl _)] at h
        exact h
      have HX7 := hide X7
      clear X7 hke HX
      go_wp2_with fail
      refine (HQ.out wr u3 HX7.out).mono ?_
      rintro e w2 ⟨rfl, C2⟩
      have HC2 := hide C2
      clear C2
      go_wp2_with fail
      refine HC2.out.mono ?_
      rintro e w3 ⟨t, rfl, hb3, hq⟩
      have HB3 := hide hb3
      have HQ3 := hide hq
      clear hb3 hq
      go_wp2
      go_ret
      exact ⟨t, rfl, HB3.out, HQ3.out⟩
end Go.Proofs.YtcidgfdiacehmaaDoor

/- 'choirkeep.Level', for any list of steps (100 of them are done): when all are up, nothing is under way, and each has told each other one, all have the same, and compacted logs are the same bytes. The first form's statement and its card: no condition beside the row's own. -/
import Derived.Test.YtamcclcbmenjdaaGreatDoorLevelG11
import Derived.Shelf.Slices.In.SortNone
/- textsOf. -/
namespace Go.Proofs.YtamcclcbmenjdaaGreatDoor
open Go.RowKit Go.Lib

/-- All strings of labels, in their order. -/
def labTexts (l : List Lab) : List ByteArray := l.flatMap fun x => [x.1, x.2]
def allTexts (bs : List Ser) : List ByteArray := bs.flatMap fun s => labTexts s.1
theorem labTexts_take (l : List Lab) (k : Nat) (x : Lab) (h : l[k]? = some x) : labTexts (l.take (k + 1)) = labTexts (l.take k) ++ [x.1, x.2] := by
  obtain ⟨hk, hx⟩ := List.getElem?_eq_some_iff.1 h
  rw [List.take_succ_eq_append_getElem hk, hx, labTexts, List.flatMap_append]
  simp [labTexts]
theorem allTexts_take (l : List Ser) (k : Nat) (x : Ser) (h : l[k]? = some x) : allTexts (l.take (k + 1)) = allTexts (l.take k) ++ labTexts x.1 := by
  obtain ⟨hk, hx⟩ := List.getElem?_eq_some_iff.1 h
  rw [List.take_succ_eq_append_getElem hk, hx, allTexts, List.flatMap_append]
  simp [allTexts]
theorem labTexts_len (l : List Lab) : (labTexts l).length = 2 * l.length := by
  induction l with
  | nil => rfl
  | cons x r ih => simp only [labTexts, List.flatMap_cons, List.length_append, List.length_cons, List.length_nil] at ih ⊢; omega
theorem allTexts_len (bs : List Ser) (h : ∀ s ∈ bs, s.1.length ≤ 100) : (allTexts bs).length ≤ 200 * bs.length := by
  induction bs with
  | nil => simp [allTexts]
  | cons x r ih =>
    have h1 := labTexts_len x.1
    have h2 := h x (by simp)
    have h3 := ih fun s hs => h s (by simp [hs])
    simp only [allTexts, List.flatMap_cons, List.length_append, List.length_cons] at h3 ⊢
    omega

/-- A row of strings of the call's own, as far as it has come. -/
structure Txt (w : World) (W : World) (o : Value) (l : List ByteArray) : Prop where
  own : W.ownsRow w.heap.size 9 1 o l.length (Strs l)
  below : Below w.heap.size w W

theorem Txt.alloc {w W : World} {o : Value} {l : List ByteArray} (h : Txt w W o l) (ob : Obj) : Txt w (W.alloc ob) o l := ⟨h.own.alloc ob, h.below.alloc h.below.size ob⟩
theorem Txt.app {w W W' : World} {o o' : Value} {l : List ByteArray} {n : Nat} {x y : ByteArray} (h : Txt w W o l) (hown : W'.ownsRow w.heap.size 9 1 o' n (Strs l ++ [.string x, .string y])) (hg : W.grownBy W' o.ownBlock) : Txt w W' o' (l ++ [x, y]) := by
  refine ⟨?_, h.below.grown hg h.below.size fun k e => (World.ownsRow.lt h.own k e).1⟩
  have hn : n = (l ++ [x, y]).length := by have := hown.1; simp [Strs] at this; simp; omega
  have e : Strs (l ++ [x, y]) = Strs l ++ [.string x, .string y] := by simp [Strs]
  rw [e, ← hn]; exact hown

set_option maxRecDepth 100000 in
set_option maxHeartbeats 400000 in
theorem textsOf_loops (B : Nat) (v : Value) (bs : List Ser) (w : World) (hb : BatchAt w B v bs) (hB : B ≤ w.heap.size) (hbl : bs.length ≤ 100) (hll : ∀ s ∈ bs, s.1.length ≤ 100)
    (Q : Value → World → Prop) (hQ : ∀ W o, Txt w W o (allTexts bs) → Calls Tryz.prog 135 #[o] W fun e w' => e = .returned (.tuple #[]) ∧ Calls Tryz.prog 136 #[o] w' fun e w'' => ∃ t, e = .returned t ∧ Below w.heap.size w w'' ∧ Q t w'') :
    Calls Tryz.prog 110 #[v] w fun e w' => ∃ t, e = .returned t ∧ Below w.heap.size w w' ∧ Q t w' := by
  obtain ⟨i0, hi, hz0, hz1, hz2⟩ := info_parts Tryz.infoStr
  obtain ⟨a, cap, rfl, hcap, hb2⟩ := hb
  have hcS : ∀ k y, bs[k]? = some y → ∃ b o lv sa sn sc, a = some ⟨b, o, none⟩ ∧ b < B ∧ w.cell? ⟨b, o + k * 2, none⟩ = some lv ∧ w.cell? ⟨b, o + k * 2 + 1, none⟩ = some (.slice sa sn sc) ∧ LabelsAt w B lv y.1 := by
    intro k y hy
    rcases hb2 with h | ⟨b, o, ha, hbb, hc⟩
    · rw [h] at hy; cases hy
    · obtain ⟨lv, sv, h1, h2, h3, sa, sc, rfl, _⟩ := hc k y hy
      exact ⟨b, o, lv, sa, _, sc, ha, hbb, h1, h2, h3⟩
  have HC := hide hcS
  have HQ := hide hQ
  have HL := hide hll
  clear hcS hQ hb2 hll
  go_enter Tryz.func110, Tryz.ntmps110
  go_wp2
  go_loopw [3, 5, 7, 10] (fun o _ _ i wr => ∃ k : Nat, k ≤ bs.length ∧ i = .int .i64 k ∧ Txt w wr o (allTexts (bs.take k))) (fun _ _ _ i _ => bs.length - (intOf i).toNat)
  case atStart => exact ⟨0, Nat.zero_le _, rfl, ⟨World.ownsRow_nil _ _ _ _, Below.refl _ _⟩⟩
  case round =>
    obtain ⟨k, hk, rfl, hX⟩ := hrel
    have HX := hide hX
    clear hX
    by_cases hlt : k < bs.length
    · obtain ⟨y, hy⟩ : ∃ y, bs[k]? = some y := ⟨_, List.getElem?_eq_getElem hlt⟩
      obtain ⟨b, o, lv, sa, sn, sc, rfl, hbB, hc1, hc2, hL⟩ := HC.out k y hy
      have hbw : b < w.heap.size := by omega
      have m0 : wr.cell? ⟨b, o + k * 2, none⟩ = some lv := (HX.out.below.cell (p := ⟨b, o + k * 2, none⟩) hbw).trans hc1
      have m1 : wr.cell? ⟨b, o + k * 2 + 1, none⟩ = some (.slice sa sn sc) := (HX.out.below.cell (p := ⟨b, o + k * 2 + 1, none⟩) hbw).trans hc2
      have hyl := HL.out y (List.mem_of_getElem? hy)
      obtain ⟨la, lcap, rfl, hlc, hL2⟩ := hL
      have HE := hide (allTexts_take bs k y hy)
      have HL2 := hide hL2
      have hal : (allTexts (bs.take k)).length ≤ 200 * k := by
        have h1 := allTexts_len (bs.take k) (fun s hs => HL.out s (List.mem_of_mem_take hs))
        have h2 : (bs.take k).length ≤ k := List.length_take_le _ _
        omega
      have hws : w.heap.size ≤ wr.heap.size := HX.out.below.size
      clear hc1 hc2 hy hL2
      have HX1 := hide (HX.out.alloc (.cells #[.slice la y.1.length lcap, .slice sa sn sc] 38))
      go_wp2
      go_loopw [3, 7, 17] (fun o _ i wr => ∃ j : Nat, j ≤ y.1.length ∧ i = .int .i64 j ∧ Txt w wr o (allTexts (bs.take k) ++ labTexts (y.1.take j))) (fun _ _ i _ => y.1.length - (intOf i).toNat)
      case atStart => exact ⟨0, Nat.zero_le _, rfl, by simpa [labTexts] using HX1.out⟩
      case round =>
        obtain ⟨j, hj, rfl, hY⟩ := hrel
        have HY := hide hY
        clear hY HX HX1 m0 m1
        by_cases hjl : j < y.1.length
        · obtain ⟨⟨ky, vy⟩, hyj⟩ : ∃ x, y.1[j]? = some x := ⟨_, List.getElem?_eq_getElem hjl⟩
          have hc : ∃ lb lo, la = some ⟨lb, lo, none⟩ ∧ lb < B ∧ w.cell? ⟨lb, lo + j * 2, none⟩ = some (.string ky) ∧ w.cell? ⟨lb, lo + j * 2 + 1, none⟩ = some (.string vy) := by
            rcases HL2.out with h | ⟨lb, lo, ha, hlb, hcc⟩
            · rw [h] at hyj; cases hyj
            · exact ⟨lb, lo, ha, hlb, (hcc j (ky, vy) hyj).1, (hcc j (ky, vy) hyj).2⟩
          obtain ⟨lb, lo, rfl, hlb, hc1, hc2⟩ := hc
          have hlw : lb < w.heap.size := by omega
          have m0 : wr.cell? ⟨lb, lo + j * 2, none⟩ = some (.string ky) := (HY.out.below.cell (p := ⟨lb, lo + j * 2, none⟩) hlw).trans hc1
          have m1 : wr.cell? ⟨lb, lo + j * 2 + 1, none⟩ = some (.string vy) := (HY.out.below.cell (p := ⟨lb, lo + j * 2 + 1, none⟩) hlw).trans hc2
          have HF := hide (labTexts_take y.1 j (ky, vy) hyj)
          have hjl2 := labTexts_len (y.1.take j)
          have hjl3 : (y.1.take j).length ≤ j := List.length_take_le _ _
          have hln : (allTexts (bs.take k) ++ labTexts (y.1.take j)).length ≤ 30000 := by rw [List.length_append]; omega
          have hws2 : w.heap.size ≤ wr.heap.size := HY.out.below.size
          have HN := hide hln
          clear hc1 hc2 hyj hjl2 hjl3 hln hal
          go_wp2_with (first | (at_builtin; refine wpList_append_heir _ rfl (.tmp 21) (.tmp 26) 22 rfl w.heap.size 9 i0 (.string ByteArray.empty) 1 16 Tryz.underlying22 hi hz0 hz1 hz2 rfl (by decide) _ _ _ rfl ((HY.out.own.alloc _).alloc _) ⟨wr.heap.size + 1, 0, none⟩ 2 2 [.string ky, .string vy] rfl rfl ?c1 ?c2 ?c3 ?c4 ?c5 ?_))
          case c2 => exact ⟨rfl, rfl⟩
          case c3 => unfold maxLen; have h := HN.out; rw [List.length_append] at h; omega
          case c4 => have h := HN.out; rw [List.length_append] at h; omega
          case c5 => omega
          intro v5 w5 hown5 hgrow5 _
          have X5 : Txt w w5 v5 (allTexts (bs.take k) ++ labTexts (y.1.take (j + 1))) := by
            have h := ((HY.out.alloc _).alloc _).app (x := ky) (y := vy) hown5 hgrow5
            rw [HF.out, ← List.append_assoc]; exact h
          have HX5 := hide X5
          clear X5 hown5 hgrow5 m0 m1
          go_wp2
          go_roundw
          case rel => exact ⟨j + 1, by omega, by go_num, HX5.out⟩
          case measure => simp [intOf]; omega
        · have hje : j = y.1.length := by omega
          have X6 : Txt w wr u3 (allTexts (bs.take (k + 1))) := by
            have h := HY.out
            rw [hje, List.take_of_length_le (Nat.le_refl _)] at h
            rw [HE.out]; exact h
          have HX6 := hide X6
          clear X6 hje
          go_wp2
          go_roundw
          case rel => exact ⟨k + 1, by omega, by go_num, HX6.out⟩
          case measure => simp [intOf]; omega
    · have hke : k = bs.length := by omega
      have X7 : Txt w wr u3 (allTexts bs) := by
        have h := HX.out
        rw [hke, List.take_of_length_le (Nat.le_refl _)] at h
        exact h
      have HX7 := hide X7
      clear X7 hke HX
      go_wp2_with fail
      refine (HQ.out wr u3 HX7.out).mono ?_
      rintro e w2 ⟨rfl, C2⟩
      have HC2 := hide C2
      clear C2
      go_wp2_with fail
      refine HC2.out.mono ?_
      rintro e w3 ⟨t, rfl, hb3, hq⟩
      have HB3 := hide hb3
      have HQ3 := hide hq
      clear hb3 hq
      go_wp2
      go_ret
      exact ⟨t, rfl, HB3.out, HQ3.out⟩
end Go.Proofs.YtamcclcbmenjdaaGreatDoor

/- slices.Sort and slices.Compact behind textsOf's loops; textsOf. -/
namespace Go.Proofs.YtamcclcbmenjdaaGreatDoor
open Go.RowKit Go.Lib Go.Sort

/-- The different strings of all labels, the lesser first. -/
def sortedTexts (l : List ByteArray) : List ByteArray := (Lib.compact ((l.map fun s => s.data.toList).mergeSort fun x y => decide (x ≤ y))).map fun x => ⟨x.toArray⟩

theorem below_putRow {B g off : Nat} {a w : World} {d : Array (List UInt8)} (h : Below B a w) (hg : B ≤ g) : Below B a (putRow encStr w g off d) := by
  refine h.trans ⟨rfl, rfl, rfl, by simp, fun k hk => ?_⟩
  simp only [putRow, mapBlock, Array.getElem?_modify]
  rw [if_neg (by omega)]
theorem below_ahead {B : Nat} {a w : World} (h : Below B a w) (n : Nat) : Below B a (Sort.ahead w n) := h.trans ⟨rfl, rfl, rfl, Nat.le_refl _, fun _ _ => rfl⟩
theorem below_grow {B : Nat} {a w : World} (h : Below B a w) (hB : B ≤ w.heap.size) (os : Array Obj) : Below B a (grow w os) := h.trans ⟨rfl, rfl, rfl, by simp, fun k hk => heap_grow_old w os (by omega)⟩

theorem str_eta (s : ByteArray) : (⟨s.data.toList.toArray⟩ : ByteArray) = s := by simp
theorem getElem!_list (zs : List (List UInt8)) (j : Nat) (hj : j < zs.length) : zs.toArray[j]! = zs[j] := by simp [hj]

theorem compact_le (zs : List (List UInt8)) : (Lib.compact zs).length ≤ zs.length := by
  unfold Lib.compact compactUpTo
  rw [List.length_map]
  exact Nat.le_trans (List.length_filter_le _ _) (by simp)

theorem sortCompact (w W : World) (o : Value) (l : List ByteArray) (h : Txt w W o l) (hl : l.length ≤ 100000) (h3 : 3 ≤ w.heap.size) :
    Calls Tryz.prog 135 #[o] W fun e w' => e = .returned (.tuple #[]) ∧ Calls Tryz.prog 136 #[o] w' fun e w'' => ∃ t, e = .returned t ∧ Below w.heap.size w w'' ∧
      ∃ tb, TextsAt w'' t tb (sortedTexts l) ∧ tb < w''.heap.size ∧ (tb = 0 ∨ w.heap.size ≤ tb) := by
  by_cases hn : l = []
  · subst hn
    obtain ⟨p, cap, rfl⟩ : ∃ p cap, o = .slice p 0 cap := by
      rcases h.own.2 with ⟨h1, _⟩ | ⟨g, cap, cur, h1, _⟩
      · exact ⟨_, _, h1⟩
      · exact ⟨_, _, h1⟩
    refine (Any.slices_Sort_string_none Tryz.lays190 p cap W).mono ?_
    rintro e w' ⟨rfl, rfl⟩
    refine ⟨rfl, ?_⟩
    refine (Tryz.slices_Compact_string_empty p cap w').mono ?_
    rintro e w'' ⟨rfl, rfl⟩
    exact ⟨_, rfl, h.below, 0, ⟨.inl ⟨by simp [sortedTexts, Lib.compact, compactUpTo], _, _, rfl⟩⟩, by have := h.below.size; omega, .inl rfl⟩
  · have hpos : 0 < l.length := List.length_pos_iff.2 hn
    obtain ⟨g, cap, rfl, hg⟩ := ownsRow_some h.own hpos
    have hgl : g < W.heap.size := (World.ownsRow.lt h.own g rfl).2
    obtain ⟨zs, hzs⟩ : ∃ zs, zs = l.map fun s => s.data.toList := ⟨_, rfl⟩
    have hlen : zs.length = l.length := by rw [hzs]; simp
    have hH : Holds encStr W g 0 zs.toArray := by
      intro j hj
      have hj' : j < l.length := by simpa [hlen] using hj
      refine ⟨?_, World.ownsRow.frozenAt h.own (0 + j)⟩
      rw [World.ownsRow.cellAt h.own (0 + j) (by omega), getElem!_list zs j (by omega)]
      subst hzs
      simp [Strs, hj']
    have hcap : l.length ≤ cap := by
      rcases h.own.2 with ⟨h1, _⟩ | ⟨g', cap', cur, h1, _, _, hc, _⟩
      · cases h1
      · cases h1; exact hc
    have S := Tryz.slices_Sort_string g 0 cap zs W hH hgl (by omega)
    rw [hlen] at S
    refine S.mono ?_
    rintro e w' ⟨rfl, n, os, rfl⟩
    refine ⟨rfl, ?_⟩
    obtain ⟨ys, hys⟩ : ∃ ys, ys = zs.mergeSort fun x y => decide (x ≤ y) := ⟨_, rfl⟩
    have hyl : ys.length = l.length := by rw [hys, List.length_mergeSort, hlen]
    rw [← hys]
    have hB1 : Below w.heap.size w (grow (putRow encStr (Sort.ahead W n) g 0 ys.toArray) os) := below_grow (below_putRow (below_ahead h.below n) hg) (by simp; exact h.below.size) os
    have hH1 : Holds encStr (grow (putRow encStr (Sort.ahead W n) g 0 ys.toArray) os) g 0 ys.toArray :=
      holds_grow encStr _ os g 0 _ (by simpa using hgl) (holds_putRow encStr _ g 0 zs.toArray _ (holds_ahead encStr W n g 0 _ hH) (by simp [hyl, hlen]))
    have hsz1 : g < (grow (putRow encStr (Sort.ahead W n) g 0 ys.toArray) os).heap.size := by simp; omega
    generalize grow (putRow encStr (Sort.ahead W n) g 0 ys.toArray) os = w1 at *
    have C := Tryz.slices_Compact_string g 0 cap ys w1 hH1 (by omega) (by omega)
    rw [hyl] at C
    refine C.mono ?_
    rintro e w'' ⟨rfl, q, rfl⟩
    refine ⟨_, rfl, below_putRow (below_ahead hB1 q) hg, g, ⟨.inr ⟨0, cap, ?_, ?_⟩⟩, by simpa using hsz1, .inr hg⟩
    · rw [sortedTexts, ← hzs, ← hys, List.length_map]
    · intro i x hx
      rw [sortedTexts, ← hzs, ← hys, List.getElem?_map] at hx
      obtain ⟨c, hc, rfl⟩ := Option.map_eq_some_iff.1 hx
      obtain ⟨hi, hci⟩ := List.getElem?_eq_some_iff.1 hc
      have hcl : (Lib.compact ys).length ≤ ys.length := compact_le ys
      have hcell := cell?_putRow encStr (Sort.ahead w1 q) g 0 ys.toArray (Lib.compact ys ++ List.replicate (l.length - (Lib.compact ys).length) []).toArray (holds_ahead encStr w1 q g 0 _ hH1) (by simp; omega) i (by simp; omega)
      rw [hcell, getElem!_list _ i (by simp; omega), List.getElem_append_left hi, hci]

/-- frame.textsOf: the different strings of all labels, sorted, in new memory. -/
theorem textsOf_any (B : Nat) (v : Value) (bs : List Ser) (w : World) (hb : BatchAt w B v bs) (hB : B ≤ w.heap.size) (hbl : bs.length ≤ 100) (hll : ∀ s ∈ bs, s.1.length ≤ 100) (h3 : 3 ≤ w.heap.size) :
    Calls Tryz.prog 110 #[v] w fun e w' => ∃ t, e = .returned t ∧ Below w.heap.size w w' ∧ ∃ tb, TextsAt w' t tb (sortedTexts (allTexts bs)) ∧ tb < w'.heap.size ∧ (tb = 0 ∨ w.heap.size ≤ tb) := by
  refine textsOf_loops B v bs w hb hB hbl hll (fun t w' => ∃ tb, TextsAt w' t tb (sortedTexts (allTexts bs)) ∧ tb < w'.heap.size ∧ (tb = 0 ∨ w.heap.size ≤ tb)) ?_
  intro W o h
  exact sortCompact w W o (allTexts bs) h (by have := allTexts_len bs hll; omega) h3
end Go.Proofs.YtamcclcbmenjdaaGreatDoor

/- numbersOf. -/
namespace Go.Proofs.YtamcclcbmenjdaaGreatDoor
open Go.RowKit Go.Lib

/-- All labels, in their order. -/
def allLabs (bs : List Ser) : List Lab := bs.flatMap fun s => s.1
theorem allLabs_take (l : List Ser) (k : Nat) (x : Ser) (h : l[k]? = some x) : allLabs (l.take (k + 1)) = allLabs (l.take k) ++ x.1 := by
  obtain ⟨hk, hx⟩ := List.getElem?_eq_some_iff.1 h
  rw [List.take_succ_eq_append_getElem hk, hx, allLabs, List.flatMap_append]
  simp [allLabs]
/-- What holds while the map fills. -/
structure Filling (w W : World) (mb : Nat) (texts : List ByteArray) (seen : List Lab) : Prop where
  map : ∃ n, n ≤ seen.length ∧ NumMap W mb n texts seen
  below : Below w.heap.size w W
theorem Filling.alloc {w W : World} {mb : Nat} {texts : List ByteArray} {seen : List Lab} (h : Filling w W mb texts seen) (o : Obj) : Filling w (W.alloc o) mb texts seen := by
  obtain ⟨n, hn, hm⟩ := h.map
  exact ⟨⟨n, hn, hm.kept (heap_alloc_old W o hm.lt)⟩, h.below.alloc h.below.size o⟩

set_option maxRecDepth 100000 in
set_option maxHeartbeats 1000000 in
theorem numbersOf_any (B tb : Nat) (v tv : Value) (bs : List Ser) (texts : List ByteArray) (w : World) (hb : BatchAt w B v bs) (hB : B ≤ w.heap.size) (hbl : bs.length ≤ 100) (hll : ∀ s ∈ bs, s.1.length ≤ 100) (hsh : ∀ x ∈ allLabs bs, ShortL x)
    (ht : TextsAt w tv tb texts) (htl : texts.length ≤ 1000000) (htb : tb < w.heap.size) :
    Calls Tryz.prog 112 #[v, tv] w fun e w' => ∃ mb n, e = .returned (.map (some mb)) ∧ w.heap.size ≤ mb ∧ NumMap w' mb n texts (allLabs bs) ∧ Below w.heap.size w w' := by
  obtain ⟨a, cap, rfl, hcap, hb2⟩ := hb
  have hcS : ∀ k y, bs[k]? = some y → ∃ b o lv sa sn sc, a = some ⟨b, o, none⟩ ∧ b < B ∧ w.cell? ⟨b, o + k * 2, none⟩ = some lv ∧ w.cell? ⟨b, o + k * 2 + 1, none⟩ = some (.slice sa sn sc) ∧ LabelsAt w B lv y.1 := by
    intro k y hy
    rcases hb2 with h | ⟨b, o, ha, hbb, hc⟩
    · rw [h] at hy; cases hy
    · obtain ⟨lv, sv, h1, h2, h3, sa, sc, rfl, _⟩ := hc k y hy
      exact ⟨b, o, lv, sa, _, sc, ha, hbb, h1, h2, h3⟩
  have hcn : ∀ (X : ByteArray) (W : World), TextsAt W tv tb texts → Calls Tryz.prog 137 #[tv, .string X] W fun e w' => e = .returned (.int .i64 (placeOf texts X)) ∧ w'.heap = W.heap ∧ Below W.heap.size W w' := by
    intro X W hT
    refine (numberOf_any tv tb texts X W hT htl).mono ?_
    rintro e w' ⟨rfl, q, rfl⟩
    exact ⟨rfl, rfl, below_drewN (Below.refl _ _) q⟩
  have C := hide hcn
  have HC := hide hcS
  have HL := hide hll
  have HSh := hide hsh
  have HTx := hide ht
  have F0 : Filling w (w.alloc (.map #[] 0)) w.heap.size texts (allLabs (bs.take 0)) := ⟨⟨0, Nat.zero_le _, by simpa [allLabs] using NumMap.made w texts⟩, (Below.refl _ _).alloc (Nat.le_refl _) _⟩
  have HF0 := hide F0
  clear hcS hb2 hll hsh ht hcn F0
  have hmm := @run_makeMap Tryz.prog
  go_enter Tryz.func112, Tryz.ntmps112
  go_wp2
  clear hmm
  go_loopw [7, 9, 10, 11, 15] (fun _ _ _ _ i wr => ∃ k : Nat, k ≤ bs.length ∧ i = .int .i64 k ∧ Filling w wr w.heap.size texts (allLabs (bs.take k))) (fun _ _ _ _ i _ => bs.length - (intOf i).toNat)
  case atStart => exact ⟨0, Nat.zero_le _, rfl, HF0.out⟩
  case round =>
    obtain ⟨k, hk, rfl, hX⟩ := hrel
    have HX := hide hX
    clear hX
    by_cases hlt : k < bs.length
    · obtain ⟨y, hy⟩ : ∃ y, bs[k]? = some y := ⟨_, List.getElem?_eq_getElem hlt⟩
      obtain ⟨b, o, lv, sa, sn, sc, rfl, hbB, hc1, hc2, hL⟩ := HC.out k y hy
      have hbw : b < w.heap.size := by omega
      have m0 : wr.cell? ⟨b, o + k * 2, none⟩ = some lv := (HX.out.below.cell (p := ⟨b, o + k * 2, none⟩) hbw).trans hc1
      have m1 : wr.cell? ⟨b, o + k * 2 + 1, none⟩ = some (.slice sa sn sc) := (HX.out.below.cell (p := ⟨b, o + k * 2 + 1, none⟩) hbw).trans hc2
      have hym := List.mem_of_getElem? hy
      have hyl := HL.out y hym
      have hsy : ∀ x ∈ y.1, ShortL x := fun x hx => HSh.out x (List.mem_flatMap.2 ⟨y, hym, hx⟩)
      obtain ⟨la, lcap, rfl, hlc, hL2⟩ := hL
      have HE := hide (allLabs_take bs k y hy)
      have HSy := hide hsy
      have HL2 := hide hL2
      have hal : (allLabs (bs.take k)).length ≤ 100 * k := by
        have h1 : ∀ l : List Ser, (∀ s ∈ l, s.1.length ≤ 100) → (allLabs l).length ≤ 100 * l.length := by
          intro l
          induction l with
          | nil => intro _; simp [allLabs]
          | cons x r ih =>
            intro hl
            have h2 := hl x (by simp)
            have h3 := ih fun s hs => hl s (by simp [hs])
            simp only [allLabs, List.flatMap_cons, List.length_append, List.length_cons] at h3 ⊢
            omega
        have h2 := h1 (bs.take k) (fun s hs => HL.out s (List.mem_of_mem_take hs))
        have h3 : (bs.take k).length ≤ k := List.length_take_le _ _
        omega
      have hws : w.heap.size ≤ wr.heap.size := HX.out.below.size
      clear hc1 hc2 hy hym hL2 hsy
      have HX1 := hide (HX.out.alloc (.cells #[.slice la y.1.length lcap, .slice sa sn sc] 38))
      go_wp2
      go_loopw [9, 10, 11, 22] (fun _ _ _ i wr => ∃ j : Nat, j ≤ y.1.length ∧ i = .int .i64 j ∧ Filling w wr w.heap.size texts (allLabs (bs.take k) ++ y.1.take j)) (fun _ _ _ i _ => y.1.length - (intOf i).toNat)
      case atStart => exact ⟨0, Nat.zero_le _, rfl, by simpa using HX1.out⟩
      case round =>
        obtain ⟨j, hj, rfl, hY⟩ := hrel
        have HY := hide hY
        clear hY HX HX1 m0 m1
        by_cases hjl : j < y.1.length
        · obtain ⟨⟨ky, vy⟩, hyj⟩ : ∃ x, y.1[j]? = some x := ⟨_, List.getElem?_eq_getElem hjl⟩
          have hc : ∃ lb lo, la = some ⟨lb, lo, none⟩ ∧ lb < B ∧ w.cell? ⟨lb, lo + j * 2, none⟩ = some (.string ky) ∧ w.cell? ⟨lb, lo + j * 2 + 1, none⟩ = some (.string vy) := by
            rcases HL2.out with h | ⟨lb, lo, ha, hlb, hcc⟩
            · rw [h] at hyj; cases hyj
            · exact ⟨lb, lo, ha, hlb, (hcc j (ky, vy) hyj).1, (hcc j (ky, vy) hyj).2⟩
          obtain ⟨lb, lo, rfl, hlb, hc1, hc2⟩ := hc
          have hlw : lb < w.heap.size := by omega
          have m0 : wr.cell? ⟨lb, lo + j * 2, none⟩ = some (.string ky) := (HY.out.below.cell (p := ⟨lb, lo + j * 2, none⟩) hlw).trans hc1
          have m1 : wr.cell? ⟨lb, lo + j * 2 + 1, none⟩ = some (.string vy) := (HY.out.below.cell (p := ⟨lb, lo + j * 2 + 1, none⟩) hlw).trans hc2
          have hshx := HSy.out (ky, vy) (List.mem_of_getElem? hyj)
          have HTk := hide (take_more y.1 j (ky, vy) hyj)
          obtain ⟨n, hn, hM⟩ := HY.out.map
          have hM1 : NumMap (wr.alloc (.cells #[.string ky, .string vy] 80)) w.heap.size n texts (allLabs (bs.take k) ++ y.1.take j) := hM.kept (heap_alloc_old wr _ hM.lt)
          obtain ⟨p1, p2, kk, hlook, hok⟩ := hM1.look_ok (ky, vy) hshx
          simp only at hlook
          have hws2 : w.heap.size ≤ wr.heap.size := HY.out.below.size
          have hnl : n ≤ 10100 := by
            rw [List.length_append] at hn
            have h3 : (y.1.take j).length ≤ j := List.length_take_le _ _
            omega
          obtain ⟨W, hW⟩ : ∃ W, W = (wr.alloc (.cells #[.string ky, .string vy] 80)).alloc (.cells #[.int .i64 p1, .int .i64 p2] 193) := ⟨_, rfl⟩
          have hWh : W.heap[w.heap.size]? = (wr.alloc (.cells #[.string ky, .string vy] 80)).heap[w.heap.size]? := by rw [hW]; exact heap_alloc_old _ _ hM1.lt
          have hM2 := hM1.kept hWh
          have hFW : Below w.heap.size w W := by rw [hW]; exact (HY.out.alloc _).below.alloc (by simp; omega) _
          have hok2 : kk = true → Filling w W w.heap.size texts (allLabs (bs.take k) ++ y.1.take (j + 1)) := fun hk1 => by
            refine ⟨⟨n, ?_, ?_⟩, hFW⟩
            · rw [HTk.out, ← List.append_assoc, List.length_append]; omega
            · rw [HTk.out, ← List.append_assoc]; exact (hok hk1).kept hWh
          have HW := hide hW
          have HM2 := hide hM2
          have HFW := hide hFW
          have HOk := hide hok2
          have HN := hide hn
          have HShx := hide hshx
          clear hc1 hc2 hyj hok hM hM1 hM2 hWh hFW hok2 hn hal hshx hW
          cases kk with
          | true =>
            go_wp2
            go_roundw
            case rel => exact ⟨j + 1, by omega, by go_num, by rw [← HW.out]; exact HOk.out rfl⟩
            case measure => simp [intOf]; omega
          | false =>
            obtain ⟨f, hf⟩ := HM2.out.store (ky, vy) HShx.out (by unfold maxLen; omega)
            simp only at hf
            have q0 : W.cell? ⟨wr.heap.size, 0, none⟩ = some (.string ky) := by
              have h := World.cell?_alloc_new wr #[.string ky, .string vy] 80 0
              rw [HW.out]
              exact (World.cell?_of_block (a := ⟨wr.heap.size, 0, none⟩) (heap_alloc_old _ _ (by simp))).trans h
            have q1 : W.cell? ⟨wr.heap.size, 1, none⟩ = some (.string vy) := by
              have h := World.cell?_alloc_new wr #[.string ky, .string vy] 80 1
              rw [HW.out]
              exact (World.cell?_of_block (a := ⟨wr.heap.size, 1, none⟩) (heap_alloc_old _ _ (by simp))).trans h
            have hTW : TextsAt W.drew tv tb texts := HTx.out.kept (HFW.out.block tb htb)
            obtain ⟨mo, hmo⟩ : ∃ mo, W.heap[w.heap.size]? = some mo := ⟨_, Array.getElem?_eq_getElem HM2.out.lt⟩
            have hne : wr.heap.size ≠ w.heap.size := by have := HY.out.map; obtain ⟨_, _, h⟩ := this; have := h.lt; omega
            have hmu : ∀ W' : World, W'.heap[w.heap.size]? = some mo → (Instr.mapUpdate 167 (.map (some w.heap.size)) (.agg #[.string ky, .string vy]) (.agg #[.int .i64 (placeOf texts ky), .int .i64 (placeOf texts vy)])).run Tryz.prog W' = .ok () (f W') :=
              fun W' h => (hf W' (h.trans hmo.symm)).1
            have hfc : ∀ (W' : World) (i : Nat), W'.heap[w.heap.size]? = some mo → wr.heap.size < W'.heap.size → (f W').cell? ⟨wr.heap.size, i, none⟩ = W'.cell? ⟨wr.heap.size, i, none⟩ :=
              fun W' i h h2 => World.cell?_of_block (a := ⟨wr.heap.size, i, none⟩) ((hf W' (h.trans hmo.symm)).2.2.block wr.heap.size h2 (fun e => hne (Option.some.inj e)))
            have hWs : wr.heap.size < W.heap.size := by rw [HW.out]; simp; omega
            have HMu := hide (fun W' (h : W'.heap[w.heap.size]? = some mo) => (hf W' (h.trans hmo.symm)).2)
            have HH : Hid (∀ W2 : World, W2.heap = W.heap → W2.cell? ⟨wr.heap.size, 0, none⟩ = some (.string ky) ∧ W2.cell? ⟨wr.heap.size, 1, none⟩ = some (.string vy) ∧ W2.heap[w.heap.size]? = some mo ∧ wr.heap.size < W2.heap.size ∧ TextsAt W2 tv tb texts) := by
              intro W2 h
              exact ⟨(World.cell?_of_block (a := ⟨wr.heap.size, 0, none⟩) (by show W2.heap[_]? = W.heap[_]?; rw [h])).trans q0, (World.cell?_of_block (a := ⟨wr.heap.size, 1, none⟩) (by show W2.heap[_]? = W.heap[_]?; rw [h])).trans q1, by rw [h]; exact hmo, by rw [h]; exact hWs, hTW.kept (by show W2.heap[_]? = W.heap[_]?; rw [h])⟩
            have Hmu := hide hmu
            have Hfc := hide hfc
            clear hf hmu hfc
            go_wp2
            rw [← HW.out]
            as_aux_lemma =>
              go_region_held3 (fun w' => w'.cell? ⟨wr.heap.size, 0, none⟩ = some (.string ky) ∧ w'.cell? ⟨wr.heap.size, 1, none⟩ = some (.string vy)) (go_keep) (first | (go_at_call 137; refine (C.out _ _ (by first | exact hT2 | exact hTW)).mono ?_; first | (revert hh2; intro hh2; rintro e w3 ⟨rfl, hh3, hb3⟩; obtain ⟨f0, f1, hm3, hs3, hT3⟩ := HH.out w3 (hh3.trans hh2); have hmu3 := Hmu.out w3 hm3; have f2 := (Hfc.out w3 0 hm3 hs3).trans f0; have f3 := (Hfc.out w3 1 hm3 hs3).trans f1) | (rintro e w2 ⟨rfl, hh2, hb2⟩; obtain ⟨e0, e1, hm2, hs2, hT2⟩ := HH.out w2 hh2)))
              all_goals
                have HB3 := hide (HFW.out.drew.trans ((hb2.mono (by show w.heap.size ≤ W.heap.size; omega)).trans (hb3.mono (by omega))))
                have HM3 := hide (HMu.out w3 hm3)
                clear hb2 hb3 hT2 hT3 e0 e1 f0 f1 f2 f3 q0 q1 hmu3
                go_wp2
                go_roundw
                case rel =>
                  obtain ⟨h1, h2⟩ := HM3.out
                  refine ⟨j + 1, by omega, by go_num, ⟨n + 1, ?_, ?_⟩, HB3.out.grown h2 HB3.out.size (fun k e => by cases e; exact Nat.le_refl _)⟩
                  · have := HN.out; rw [HTk.out, ← List.append_assoc, List.length_append (bs := [(ky, vy)])]; simp only [List.length_singleton]; omega
                  · rw [HTk.out, ← List.append_assoc]; exact h1
                case measure => simp [intOf]; omega
        · have hje : j = y.1.length := by omega
          rw [hje, List.take_of_length_le (Nat.le_refl _), ← HE.out] at HY
          clear hje
          go_wp2
          go_roundw
          case rel => exact ⟨k + 1, by omega, by go_num, HY.out⟩
          case measure => simp [intOf]; omega
    · have hke : k = bs.length := by omega
      rw [hke, List.take_of_length_le (Nat.le_refl _)] at HX
      clear hke
      go_wp2
      go_ret
      obtain ⟨n, _, hm⟩ := HX.out.map
      exact ⟨_, n, rfl, Nat.le_refl _, hm, HX.out.below⟩
end Go.Proofs.YtamcclcbmenjdaaGreatDoor

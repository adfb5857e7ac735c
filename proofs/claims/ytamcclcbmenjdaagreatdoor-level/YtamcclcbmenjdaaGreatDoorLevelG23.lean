/- 'choirkeep.Level', for any list of steps (100 of them are done): when all are up, nothing is under way, and each has told each other one, all have the same, and compacted logs are the same bytes. The first form's statement and its card: no condition beside the row's own. -/
import Derived.Test.YtamcclcbmenjdaaGreatDoorLevelG6
import Derived.Test.YtamcclcbmenjdaaGreatDoorLevelG22
import Derived.Test.YtamcclcbmenjdaaGreatDoorLevelG1
import Derived.Test.YtamcclcbmenjdaaGreatDoorLevelG13
/- The reference: with, Texts, place: pure. -/
namespace Go.Proofs.YtamcclcbmenjdaaGreatDoor
open Go.RowKit Go.Lib

/-- with, from a place on; b: the text is in already. -/
def wGo (s : ByteArray) : Bool → List ByteArray → List ByteArray
  | true, [] => []
  | false, [] => [s]
  | b, x :: r => (if b = false ∧ Op.bytesLess x.toList s.toList = false then [s] else []) ++ (if x = s then [] else [x]) ++ wGo s (b || !Op.bytesLess x.toList s.toList) r

theorem wGo_true (s : ByteArray) : ∀ l : List ByteArray, wGo s true l = l.filter (fun x => decide (x ≠ s))
  | [] => rfl
  | x :: r => by
    have ih := wGo_true s r
    unfold wGo
    by_cases h : x = s
    · simp [h, ih]
    · simp [h, ih]
theorem wGo_sorted (s : ByteArray) : ∀ l : List ByteArray, l.Pairwise TLt → (wGo s false l).Pairwise TLt ∧ ∀ x, x ∈ wGo s false l ↔ x = s ∨ x ∈ l
  | [], _ => by simp [wGo]
  | x :: r, h => by
    obtain ⟨h1, h2⟩ := List.pairwise_cons.1 h
    obtain ⟨i1, i2⟩ := wGo_sorted s r h2
    by_cases hl : Op.bytesLess x.toList s.toList = true
    · have hlt := (tless x s).1 hl
      have hne : x ≠ s := fun e => tirr s (e ▸ hlt)
      have e : wGo s false (x :: r) = x :: wGo s false r := by
        rw [wGo]; simp [hl, hne]
      rw [e]
      refine ⟨List.pairwise_cons.2 ⟨fun y hy => ?_, i1⟩, fun y => ?_⟩
      · rcases (i2 y).1 hy with rfl | hy
        · exact hlt
        · exact h1 y hy
      · rw [List.mem_cons, List.mem_cons, i2 y]
        exact ⟨fun h => h.elim (fun h => .inr (.inl h)) (fun h => h.elim .inl (fun h => .inr (.inr h))), fun h => h.elim (fun h => .inr (.inl h)) (fun h => h.elim .inl (fun h => .inr (.inr h)))⟩
    · have hf : Op.bytesLess x.toList s.toList = false := by simpa using hl
      have hnl : ¬ TLt x s := fun h => hl ((tless x s).2 h)
      have e : wGo s false (x :: r) = s :: (x :: r).filter (fun y => decide (y ≠ s)) := by
        rw [wGo]
        simp only [hf, Bool.not_false, Bool.or_true, wGo_true]
        by_cases hx : x = s
        · simp [hx]
        · simp [hx]
      rw [e]
      refine ⟨List.pairwise_cons.2 ⟨fun y hy => ?_, h.filter _⟩, fun y => ?_⟩
      · obtain ⟨hy1, hy2⟩ := List.mem_filter.1 hy
        have hys : y ≠ s := by simpa using hy2
        rcases List.mem_cons.1 hy1 with rfl | hy1
        · exact ttotal hnl hys
        · by_cases hx : x = s
          · exact hx ▸ h1 y hy1
          · exact ttrans (ttotal hnl hx) (h1 y hy1)
      · rw [List.mem_cons, List.mem_filter]
        by_cases hy : y = s
        · simp [hy]
        · simp [hy]
theorem sorted_unique : ∀ l m : List ByteArray, l.Pairwise TLt → m.Pairwise TLt → (∀ x, x ∈ l ↔ x ∈ m) → l = m
  | [], [], _, _, _ => rfl
  | [], b :: m, _, _, h => by have := (h b).2 (by simp); cases this
  | a :: l, [], _, _, h => by have := (h a).1 (by simp); cases this
  | a :: l, b :: m, h1, h2, h => by
    obtain ⟨p1, p2⟩ := List.pairwise_cons.1 h1
    obtain ⟨q1, q2⟩ := List.pairwise_cons.1 h2
    have hab : a = b := by
      rcases List.mem_cons.1 ((h a).1 (by simp)) with e | hm
      · exact e
      · rcases List.mem_cons.1 ((h b).2 (by simp)) with e | hl
        · exact e.symm
        · exact absurd (ttrans (q1 a hm) (p1 b hl)) (tirr b)
    subst hab
    refine congrArg (a :: ·) (sorted_unique l m p2 q2 fun x => ⟨fun hx => ?_, fun hx => ?_⟩)
    · rcases List.mem_cons.1 ((h x).1 (by simp [hx])) with e | hm
      · exact absurd (e ▸ p1 x hx) (tirr _)
      · exact hm
    · rcases List.mem_cons.1 ((h x).2 (by simp [hx])) with e | hm
      · exact absurd (e ▸ q1 x hx) (tirr _)
      · exact hm
/-- What Texts answers. -/
def foldTexts (acc l : List ByteArray) : List ByteArray := l.foldl (fun t s => wGo s false t) acc
theorem foldTexts_sorted : ∀ (l acc : List ByteArray), acc.Pairwise TLt → (foldTexts acc l).Pairwise TLt ∧ ∀ x, x ∈ foldTexts acc l ↔ x ∈ acc ∨ x ∈ l
  | [], acc, h => ⟨h, fun x => by simp [foldTexts]⟩
  | s :: r, acc, h => by
    obtain ⟨h1, h2⟩ := wGo_sorted s acc h
    obtain ⟨i1, i2⟩ := foldTexts_sorted r (wGo s false acc) h1
    refine ⟨i1, fun x => ?_⟩
    have e : foldTexts acc (s :: r) = foldTexts (wGo s false acc) r := rfl
    rw [e, i2 x, h2 x, List.mem_cons]
    exact ⟨fun h => h.elim (fun h => h.elim (fun h => .inr (.inl h)) .inl) (fun h => .inr (.inr h)), fun h => h.elim (fun h => .inl (.inr h)) (fun h => h.elim (fun h => .inl (.inl h)) .inr)⟩
theorem foldTexts_is (l : List ByteArray) : foldTexts [] l = sortedTexts l := by
  obtain ⟨h1, h2⟩ := foldTexts_sorted l [] List.Pairwise.nil
  obtain ⟨g1, g2⟩ := texts_sorted l
  exact sorted_unique _ _ h1 g1 fun x => ⟨fun h => g2 x (by simpa using (h2 x).1 h), fun h => (h2 x).2 (.inr (sortedTexts_mem h))⟩
theorem wGo_len (s : ByteArray) : ∀ (l : List ByteArray) (b : Bool), (wGo s b l).length ≤ l.length + 1 := by
  have ht : ∀ l : List ByteArray, (wGo s true l).length ≤ l.length := fun l => by rw [wGo_true]; exact List.length_filter_le _ _
  intro l
  induction l with
  | nil => intro b; cases b <;> simp [wGo]
  | cons x r ih =>
    intro b
    cases b with
    | true => exact Nat.le_succ_of_le (ht _)
    | false =>
      rw [wGo]
      cases hf : Op.bytesLess x.toList s.toList with
      | true =>
        have := ih false
        by_cases hx : x = s
        · simp [hx]; simp [hx] at hf; omega
        · simp [hx]; omega
      | false =>
        have := ht r
        by_cases hx : x = s
        · simp [hx]; omega
        · simp [hx]; omega
theorem foldTexts_len : ∀ (l acc : List ByteArray), (foldTexts acc l).length ≤ acc.length + l.length
  | [], acc => by simp [foldTexts]
  | s :: r, acc => by
    have h1 := foldTexts_len r (wGo s false acc)
    have h2 := wGo_len s acc false
    have e : foldTexts acc (s :: r) = foldTexts (wGo s false acc) r := rfl
    rw [e, List.length_cons]; omega
/-- The first place is the place. -/
theorem place_is (texts : List ByteArray) (hp : texts.Pairwise TLt) (x : ByteArray) (k : Nat) (hk : texts[k]? = some x) : k = placeOf texts x := by
  have h := place_of texts hp x (List.mem_of_getElem? hk)
  generalize placeOf texts x = j at *
  obtain ⟨h1, e1⟩ := List.getElem?_eq_some_iff.1 hk
  obtain ⟨h2, e2⟩ := List.getElem?_eq_some_iff.1 h
  rcases Nat.lt_trichotomy k j with hh | hh | hh
  · have := List.pairwise_iff_getElem.1 hp k j h1 h2 hh
    rw [e1, e2] at this
    exact absurd this (tirr x)
  · exact hh
  · have := List.pairwise_iff_getElem.1 hp j k h2 h1 hh
    rw [e1, e2] at this
    exact absurd this (tirr x)
end Go.Proofs.YtamcclcbmenjdaaGreatDoor

/- The reference: with, Texts. -/
namespace Go.Proofs.YtamcclcbmenjdaaGreatDoor
open Go.RowKit Go.Lib

theorem wGo_drop {l : List ByteArray} {k : Nat} {x : ByteArray} (s : ByteArray) (b : Bool) (h : l[k]? = some x) :
    wGo s b (l.drop k) = (if b = false ∧ Op.bytesLess x.toList s.toList = false then [s] else []) ++ (if x = s then [] else [x]) ++ wGo s (b || !Op.bytesLess x.toList s.toList) (l.drop (k + 1)) := by
  obtain ⟨hk, hx⟩ := List.getElem?_eq_some_iff.1 h
  rw [List.drop_eq_getElem_cons hk, hx]
  cases b <;> rw [wGo]
theorem wGo_pos (s : ByteArray) (l : List ByteArray) : 0 < (wGo s false l).length := by
  cases l with
  | nil => simp [wGo]
  | cons x r =>
    rw [wGo]
    by_cases hx : x = s
    · subst hx
      have h : Op.bytesLess x.toList x.toList = false := by
        cases h : Op.bytesLess x.toList x.toList with
        | false => rfl
        | true => exact absurd ((tless x x).1 h) (tirr x)
      simp [h]
    · simp [hx]; omega
theorem Txt.app1 {w W W' : World} {o o' : Value} {l : List ByteArray} {n : Nat} {x : ByteArray} (h : Txt w W o l) (hown : W'.ownsRow w.heap.size 9 1 o' n (Strs l ++ [.string x])) (hg : W.grownBy W' o.ownBlock) : Txt w W' o' (l ++ [x]) := by
  refine ⟨?_, h.below.grown hg h.below.size fun k e => (World.ownsRow.lt h.own k e).1⟩
  have hn : n = (l ++ [x]).length := by have := hown.1; simp [Strs] at this; simp; omega
  have e : Strs (l ++ [x]) = Strs l ++ [.string x] := by simp [Strs]
  rw [e, ← hn]; exact hown
theorem Txt.texts {w W : World} {o : Value} {l : List ByteArray} (h : Txt w W o l) (hl : 0 < l.length) : ∃ b, TextsAt W o b l ∧ w.heap.size ≤ b ∧ b < W.heap.size := by
  obtain ⟨g, c, hv, hg⟩ := ownsRow_some h.own hl
  have hlt := (World.ownsRow.lt h.own g (by rw [hv]; rfl)).2
  refine ⟨g, ⟨.inr ⟨0, c, hv, fun i x hx => ?_⟩⟩, hg, hlt⟩
  have hc := h.own.cells (g := g) (by rw [hv]; rfl) i (.string x) (by simp [Strs, hx])
  have e : (⟨g, 0, none⟩ : Addr).add i = ⟨g, 0 + i, none⟩ := by simp [Addr.add]; exact fun h => h.symm
  rw [e] at hc; exact hc

set_option maxRecDepth 100000 in
set_option maxHeartbeats 1000000 in
theorem refWith_any (v : Value) (b : Nat) (l : List ByteArray) (s : ByteArray) (w : World) (ht : TextsAt w v b l) (hb : b < w.heap.size) (hl : l.length ≤ 100000) :
    Calls Tryz.prog 76 #[v, .string s] w fun e w' => ∃ o b', e = .returned o ∧ TextsAt w' o b' (wGo s false l) ∧ b' < w'.heap.size ∧ Below w.heap.size w w' := by
  obtain ⟨i0, hi, hz0, hz1, hz2⟩ := info_parts Tryz.infoStr
  have hsh : ∃ a c, v = .slice a l.length c := by
    rcases ht.shape with ⟨h, a, c, h2⟩ | ⟨o, c, h2, _⟩
    · exact ⟨a, c, by rw [h2, h]; rfl⟩
    · exact ⟨_, c, h2⟩
  obtain ⟨va, vc, rfl⟩ := hsh
  have HT := hide ht
  clear ht
  go_enter Tryz.func76, Tryz.ntmps76
  go_wp2
  go_loopw [5, 6, 7] (fun o u i wr => ∃ (k : Nat) (done : List ByteArray) (bb : Bool), k ≤ l.length ∧ i = .int .i64 k ∧ u = .bool bb ∧ Hid (Txt w wr o done) ∧ Hid (done ++ wGo s bb (l.drop k) = wGo s false l) ∧ done.length ≤ 2 * k) (fun _ _ i _ => l.length - (intOf i).toNat)
  case atStart => exact ⟨0, [], false, Nat.zero_le _, rfl, rfl, ⟨World.ownsRow_nil _ _ _ _, Below.refl _ _⟩, rfl, by simp⟩
  case round =>
    obtain ⟨k, done, bb, hk, rfl, rfl, HX, HG, hdl⟩ := hrel
    have hws : w.heap.size ≤ wr.heap.size := HX.out.below.size
    by_cases hlt : k < l.length
    · obtain ⟨x, hx⟩ : ∃ x, l[k]? = some x := ⟨_, List.getElem?_eq_getElem hlt⟩
      have hcc : ∃ o, va = some ⟨b, o, none⟩ ∧ wr.cell? ⟨b, o + k, none⟩ = some (.string x) := by
        rcases HT.out.shape with ⟨h, _⟩ | ⟨o, c, h2, hc⟩
        · rw [h] at hx; cases hx
        · cases h2
          exact ⟨o, rfl, (HX.out.below.cell (p := ⟨b, o + k, none⟩) hb).trans (hc k x hx)⟩
      obtain ⟨vo, rfl, c1⟩ := hcc
      have hg := HG.out
      rw [wGo_drop s bb hx] at hg
      clear HG hx
      cases bb with
      | true =>
        by_cases hxs : x = s
        · have hne := str_eq hxs
          have HZ : Hid (done ++ wGo s true (l.drop (k + 1)) = wGo s false l) := by show _ = _; rw [← hg]; simp [hxs]
          clear hg
          go_wp2
          go_roundw
          case rel => exact ⟨k + 1, done, true, by omega, by go_num, rfl, HX.out, HZ.out, by omega⟩
          case measure => simp [intOf]; omega
        · have hne := str_ne hxs
          have HZ : Hid ((done ++ [x]) ++ wGo s true (l.drop (k + 1)) = wGo s false l) := by show _ = _; rw [← hg]; simp [hxs]
          clear hg
          go_wp2_with (first | (at_builtin; refine wpList_append_heir _ rfl (.tmp 34) (.tmp 39) 22 rfl w.heap.size 9 i0 (.string ByteArray.empty) 1 16 Tryz.underlying22 hi hz0 hz1 hz2 rfl (by decide) _ _ _ rfl (HX.out.own.alloc _) ⟨wr.heap.size, 0, none⟩ 1 1 [.string x] rfl rfl (one_news _ _ _) (one_cell _) (by unfold maxLen; first | omega | (simp only [List.length_append, List.length_singleton]; omega)) (by first | omega | (simp only [List.length_append, List.length_singleton]; omega)) (by simp; omega) ?_))
          intro v5 w5 hown5 hgrow5 _
          have HX5 := hide ((HX.out.alloc _).app1 hown5 hgrow5)
          clear hown5 hgrow5
          go_wp2
          go_roundw
          case rel => exact ⟨k + 1, _, true, by omega, by go_num, rfl, HX5.out, HZ.out, by simp only [List.length_append, List.length_singleton]; omega⟩
          case measure => simp [intOf]; omega
      | false =>
        cases hless : Op.bytesLess x.toList s.toList with
        | true =>
          have hxs : x ≠ s := fun e => tirr s ((tless s s).1 (by rw [e] at hless; exact hless))
          have hne := str_ne hxs
          have HZ : Hid ((done ++ [x]) ++ wGo s false (l.drop (k + 1)) = wGo s false l) := by show _ = _; rw [← hg]; simp [hxs, hless]
          clear hg
          go_wp2_with (first | (at_builtin; refine wpList_append_heir _ rfl (.tmp 34) (.tmp 39) 22 rfl w.heap.size 9 i0 (.string ByteArray.empty) 1 16 Tryz.underlying22 hi hz0 hz1 hz2 rfl (by decide) _ _ _ rfl (HX.out.own.alloc _) ⟨wr.heap.size, 0, none⟩ 1 1 [.string x] rfl rfl (one_news _ _ _) (one_cell _) (by unfold maxLen; first | omega | (simp only [List.length_append, List.length_singleton]; omega)) (by first | omega | (simp only [List.length_append, List.length_singleton]; omega)) (by simp; omega) ?_))
          intro v5 w5 hown5 hgrow5 _
          have HX5 := hide ((HX.out.alloc _).app1 hown5 hgrow5)
          clear hown5 hgrow5
          go_wp2
          go_roundw
          case rel => exact ⟨k + 1, _, false, by omega, by go_num, rfl, HX5.out, HZ.out, by simp only [List.length_append, List.length_singleton]; omega⟩
          case measure => simp [intOf]; omega
        | false =>
          by_cases hxs : x = s
          · have HZ : Hid ((done ++ [s]) ++ wGo s true (l.drop (k + 1)) = wGo s false l) := by show _ = _; rw [← hg]; rw [hxs] at hless; simp [hxs, hless]
            clear hg
            subst hxs
            go_wp2_with (first | (at_builtin; refine wpList_append_heir _ rfl (.tmp 24) (.tmp 26) 22 rfl w.heap.size 9 i0 (.string ByteArray.empty) 1 16 Tryz.underlying22 hi hz0 hz1 hz2 rfl (by decide) _ _ _ rfl (HX.out.own.alloc _) ⟨wr.heap.size, 0, none⟩ 1 1 [.string _] rfl rfl (one_news _ _ _) (one_cell _) (by unfold maxLen; first | omega | (simp only [List.length_append, List.length_singleton]; omega)) (by first | omega | (simp only [List.length_append, List.length_singleton]; omega)) (by simp; omega) ?_))
            intro v5 w5 hown5 hgrow5 _
            have HX5 := hide ((HX.out.alloc _).app1 hown5 hgrow5)
            clear hown5 hgrow5
            have c2 := (HX5.out.below.cell (p := ⟨b, vo + k, none⟩) hb).trans ((HX.out.below.cell (p := ⟨b, vo + k, none⟩) hb).symm.trans c1)
            clear c1
            go_wp2
            go_roundw
            case rel => exact ⟨k + 1, _, true, by omega, by go_num, rfl, HX5.out, HZ.out, by simp only [List.length_append, List.length_singleton]; omega⟩
            case measure => simp [intOf]; omega
          · have hne := str_ne hxs
            have HZ : Hid ((done ++ [s] ++ [x]) ++ wGo s true (l.drop (k + 1)) = wGo s false l) := by show _ = _; rw [← hg]; simp [hxs, hless]
            clear hg
            go_wp2_with (first | (at_builtin; refine wpList_append_heir _ rfl (.tmp 24) (.tmp 26) 22 rfl w.heap.size 9 i0 (.string ByteArray.empty) 1 16 Tryz.underlying22 hi hz0 hz1 hz2 rfl (by decide) _ _ _ rfl (HX.out.own.alloc _) ⟨wr.heap.size, 0, none⟩ 1 1 [.string _] rfl rfl (one_news _ _ _) (one_cell _) (by unfold maxLen; first | omega | (simp only [List.length_append, List.length_singleton]; omega)) (by first | omega | (simp only [List.length_append, List.length_singleton]; omega)) (by simp; omega) ?_))
            intro v5 w5 hown5 hgrow5 _
            have HX5 := hide ((HX.out.alloc _).app1 hown5 hgrow5)
            have c2 := (HX5.out.below.cell (p := ⟨b, vo + k, none⟩) hb).trans ((HX.out.below.cell (p := ⟨b, vo + k, none⟩) hb).symm.trans c1)
            have hws5 : w.heap.size ≤ w5.heap.size := HX5.out.below.size
            clear hown5 hgrow5 c1
            go_wp2_with (first | (at_builtin; refine wpList_append_heir _ rfl (.tmp 34) (.tmp 39) 22 rfl w.heap.size 9 i0 (.string ByteArray.empty) 1 16 Tryz.underlying22 hi hz0 hz1 hz2 rfl (by decide) _ _ _ rfl (HX5.out.own.alloc _) ⟨w5.heap.size, 0, none⟩ 1 1 [.string x] rfl rfl (one_news _ _ _) (one_cell _) (by unfold maxLen; first | omega | (simp only [List.length_append, List.length_singleton]; omega)) (by first | omega | (simp only [List.length_append, List.length_singleton]; omega)) (by simp; omega) ?_))
            intro v6 w6 hown6 hgrow6 _
            have HX6 := hide ((HX5.out.alloc _).app1 hown6 hgrow6)
            clear hown6 hgrow6
            go_wp2
            go_roundw
            case rel => exact ⟨k + 1, _, true, by omega, by go_num, rfl, HX6.out, HZ.out, by simp only [List.length_append, List.length_singleton]; omega⟩
            case measure => simp [intOf]; omega
    · have hke : k = l.length := by omega
      have hg := HG.out
      rw [hke, List.drop_length] at hg
      clear HG hke
      cases bb with
      | true =>
        have HZ : Hid (done = wGo s false l) := by show done = _; rw [← hg]; simp [wGo]
        clear hg
        go_wp2
        go_ret
        obtain ⟨b', h1, _, h3⟩ := HX.out.texts (by rw [HZ.out]; exact wGo_pos s l)
        exact ⟨_, b', rfl, by rw [← HZ.out]; exact h1, h3, HX.out.below⟩
      | false =>
        have HZ : Hid (done ++ [s] = wGo s false l) := by show _ = _; rw [← hg]; simp [wGo]
        clear hg
        have hc3 : done.length + 1 ≤ 1000000 := by omega
        go_wp2_with (first | (at_builtin; refine wpList_append_heir _ rfl (.tmp 43) (.tmp 45) 22 rfl w.heap.size 9 i0 (.string ByteArray.empty) 1 16 Tryz.underlying22 hi hz0 hz1 hz2 rfl (by decide) _ _ _ rfl (HX.out.own.alloc _) ⟨wr.heap.size, 0, none⟩ 1 1 [.string _] rfl rfl (one_news _ _ _) (one_cell _) (by unfold maxLen; first | omega | (simp only [List.length_append, List.length_singleton]; omega)) (by first | omega | (simp only [List.length_append, List.length_singleton]; omega)) (by simp; omega) ?_))
        intro v5 w5 hown5 hgrow5 _
        have HX5 := hide ((HX.out.alloc _).app1 hown5 hgrow5)
        clear hown5 hgrow5
        go_wp2
        go_ret
        obtain ⟨b', h1, _, h3⟩ := HX5.out.texts (by rw [HZ.out]; exact wGo_pos s l)
        exact ⟨_, b', rfl, by rw [← HZ.out]; exact h1, h3, HX5.out.below⟩
end Go.Proofs.YtamcclcbmenjdaaGreatDoor

/- The reference: Texts. -/
namespace Go.Proofs.YtamcclcbmenjdaaGreatDoor
open Go.RowKit Go.Lib

theorem foldTexts_app (acc l m : List ByteArray) : foldTexts acc (l ++ m) = foldTexts (foldTexts acc l) m := by simp [foldTexts]
theorem foldTexts_two (acc : List ByteArray) (x y : ByteArray) : foldTexts acc [x, y] = wGo y false (wGo x false acc) := rfl
theorem TextsAt.some {w : World} {v : Value} {b n : Nat} {l : List ByteArray} (h : TextsAt w v b l) (hb : l ≠ [] → b < n) (h0 : 0 < n) : ∃ c, TextsAt w v c l ∧ c < n := by
  by_cases e : l = []
  · refine ⟨0, ⟨.inl ⟨e, ?_⟩⟩, h0⟩
    rcases h.shape with ⟨_, h⟩ | ⟨o, c, hv, _⟩
    · exact h
    · exact ⟨_, c, by rw [hv, e]; rfl⟩
  · exact ⟨b, h, hb e⟩
theorem TextsAt.below {w w' : World} {v : Value} {b : Nat} {l : List ByteArray} (h : TextsAt w v b l) (hb : Below w.heap.size w w') (hlt : b < w.heap.size) : TextsAt w' v b l := h.kept (hb.block b hlt)

set_option maxRecDepth 100000 in
set_option maxHeartbeats 1000000 in
theorem refTexts_any (B : Nat) (v : Value) (bs : List Ser) (w : World) (hS : BatchAt w B v bs) (hB : B ≤ w.heap.size) (hbl : bs.length ≤ 8) (hll : ∀ s ∈ bs, s.1.length ≤ 4) :
    Calls Tryz.prog 39 #[v] w fun e w' => ∃ o b, e = .returned o ∧ TextsAt w' o b (sortedTexts (allTexts bs)) ∧ (sortedTexts (allTexts bs) ≠ [] → b < w'.heap.size) ∧ Below w.heap.size w w' := by
  obtain ⟨a, c, rfl, _⟩ := id hS
  have HS := hide hS
  have HL := hide hll
  clear hS hll
  have HFin := hide (foldTexts_is (allTexts bs))
  go_enter Tryz.func39, Tryz.ntmps39
  go_wp2
  go_loopw [3, 4, 5] (fun o i _ wr => ∃ (k b' : Nat) (acc : List ByteArray), k ≤ bs.length ∧ i = .int .i64 k ∧ Below w.heap.size w wr ∧ acc.length ≤ 8 * k ∧ Hid (acc = foldTexts [] (allTexts (bs.take k))) ∧ Hid (TextsAt wr o b' acc) ∧ (acc ≠ [] → b' < wr.heap.size)) (fun _ i _ _ => bs.length - (intOf i).toNat)
  case atStart => exact ⟨0, 0, [], Nat.zero_le _, rfl, Below.refl _ _, Nat.le_refl _, rfl, ⟨.inl ⟨rfl, _, _, rfl⟩⟩, fun h => absurd rfl h⟩
  case round =>
    generalize wr = W0 at *
    obtain ⟨k, b', acc, hk, rfl, hbl0, hal, HA, HT, hbb⟩ := hrel
    have hsz := hbl0.size
    have HBl := hide hbl0
    clear hbl0
    by_cases hlt : k < bs.length
    · obtain ⟨⟨y1, y2⟩, hy⟩ : ∃ y, bs[k]? = some y := ⟨_, List.getElem?_eq_getElem hlt⟩
      have KS := HS.out.below HBl.out hB
      obtain ⟨b, o, la, lc, sa, sc, rfl, hb, c1, c2, hLa, hSa⟩ := KS.get hy
      have hbw : b < W0.heap.size := by omega
      have hl1 : y1.length ≤ 4 := HL.out _ (List.mem_of_getElem? hy)
      obtain ⟨b2, ht2, hb2⟩ := HT.out.some hbb (by omega)
      have HT2 := hide ht2
      have HY := hide hy
      have HLa := hide hLa
      clear hy KS hLa hSa ht2 HT hbb
      simp only at c1 c2
      go_wp2
      go_loopw [3, 5] (fun o2 q wr2 => ∃ (t bq : Nat) (ac2 : List ByteArray), t ≤ y1.length ∧ q = .int .i64 t ∧ Below W0.heap.size W0 wr2 ∧ ac2.length ≤ 8 * k + 2 * t ∧ Hid (ac2 = foldTexts acc (labTexts (y1.take t))) ∧ Hid (TextsAt wr2 o2 bq ac2) ∧ bq < wr2.heap.size) (fun _ q _ => y1.length - (intOf q).toNat)
      case atStart => exact ⟨0, b2, acc, Nat.zero_le _, rfl, Below.refl _ _, by omega, rfl, HT2.out, hb2⟩
      case round =>
        obtain ⟨t, bq, ac2, ht, rfl, hbx, hal2, HA2, HTq, hbq⟩ := hrel
        have hsx := hbx.size
        have HBx := hide hbx
        have m1 := (hbx.cell (p := ⟨b, o + k * 2, none⟩) hbw).trans c1
        clear hbx
        by_cases hlt2 : t < y1.length
        · obtain ⟨⟨p1, p2⟩, hp⟩ : ∃ p, y1[t]? = some p := ⟨_, List.getElem?_eq_getElem hlt2⟩
          have KL := HLa.out.below HBx.out (by omega)
          obtain ⟨lb, lo, rfl, hlb, e1, e2⟩ := KL.get hp
          have hlbw : lb < wr.heap.size := by omega
          have HP : Hid (foldTexts acc (labTexts (y1.take (t + 1))) = wGo p2 false (wGo p1 false ac2)) := by
            show _ = _
            rw [labTexts_take y1 t _ hp, foldTexts_app, ← HA2.out]; rfl
          have hw1 := wGo_len p1 ac2 false
          have hw2 := wGo_len p2 (wGo p1 false ac2) false
          obtain ⟨ov, oc, rfl⟩ : ∃ ov oc, u3 = .slice ov ac2.length oc := by
            rcases HTq.out.shape with ⟨h, a, c, h2⟩ | ⟨o, c, h2, _⟩
            · exact ⟨a, c, by rw [h2, h]; rfl⟩
            · exact ⟨_, c, h2⟩
          have C1 := hide (refWith_any _ bq ac2 p1 wr HTq.out hbq (by omega))
          clear hp KL
          simp only at e1 e2
          go_wp2_with fail
          refine C1.out.mono ?_
          rintro e w1 ⟨o1, b1, rfl, ht1, hb1, hbw1⟩
          have hs1 := hbw1.size
          have n1 := (hbw1.cell (p := ⟨b, o + k * 2, none⟩) (by show b < wr.heap.size; omega)).trans m1
          have f2 := (hbw1.cell (p := ⟨lb, lo + t * 2 + 1, none⟩) hlbw).trans e2
          have C2 := hide (refWith_any _ b1 _ p2 w1 ht1 hb1 (by omega))
          obtain ⟨ov1, oc1, rfl⟩ : ∃ ov oc, o1 = .slice ov (wGo p1 false ac2).length oc := by
            rcases ht1.shape with ⟨h, a, c, h2⟩ | ⟨o, c, h2, _⟩
            · exact ⟨a, c, by rw [h2, h]; rfl⟩
            · exact ⟨_, c, h2⟩
          have HB1 := hide hbw1
          clear ht1 hbw1 m1 e1 e2 C1
          go_wp2_with fail
          refine C2.out.mono ?_
          rintro e w2 ⟨o3, b3, rfl, ht3, hb3, hbw3⟩
          have HB3 := hide (HBx.out.trans ((HB1.out.trans (hbw3.mono hs1)).mono hsx))
          have HT3 := hide ht3
          clear ht3 hbw3 n1 f2 C2
          go_wp2
          go_roundw
          case rel => exact ⟨t + 1, b3, _, by omega, by go_num, HB3.out, by omega, HP.out.symm, HT3.out, hb3⟩
          case measure => simp [intOf]; omega
        · have hte : t = y1.length := by omega
          have HA3 : Hid (ac2 = foldTexts [] (allTexts (bs.take (k + 1)))) := by
            show _ = _
            rw [HA2.out, hte, List.take_length, allTexts_take bs k _ HY.out, foldTexts_app, ← HA.out]
          have HB3 := hide (HBl.out.trans (HBx.out.mono hsz))
          clear hte HA2 HA
          go_wp2
          go_roundw
          case rel => exact ⟨k + 1, bq, ac2, by omega, by go_num, HB3.out, by omega, HA3.out, HTq.out, fun _ => hbq⟩
          case measure => simp [intOf]; omega
    · have hke : k = bs.length := by omega
      have HE : Hid (acc = sortedTexts (allTexts bs)) := by show _ = _; rw [HA.out, hke, List.take_length, HFin.out]
      clear hke HA
      go_wp2
      go_ret
      exact ⟨_, b', rfl, by rw [← HE.out]; exact HT.out, by rw [← HE.out]; exact hbb, HBl.out⟩
end Go.Proofs.YtamcclcbmenjdaaGreatDoor

/- The reference: varint, place. -/
namespace Go.Proofs.YtamcclcbmenjdaaGreatDoor
open Go.RowKit Go.Lib

/-- string([]byte{n}). -/
theorem conv_one (W : World) (g c n : Nat) (h : n < 256) (hc : W.cell? ⟨g, 0, none⟩ = some (.int .u8 n)) :
    (convert 83 9 (.slice (some ⟨g, 0, none⟩) 1 c)).run Tryz.prog W = .ok (.string ⟨#[UInt8.ofNat n]⟩) W := by
  refine run_convert_bytes_back (P := Tryz.prog) W 83 9 5 ⟨g, 0, none⟩ c [UInt8.ofNat n] Tryz.underlying83 Tryz.underlying5 Tryz.underlying9 (fun j hj => ?_)
  obtain rfl : j = 0 := by simp at hj; exact hj
  show W.cell? ⟨g, 0, none⟩ = some (.int .u8 ((UInt8.ofNat n).toNat : Int))
  rw [hc, Pl.u8_ofNat n h]

set_option maxRecDepth 100000 in
set_option maxHeartbeats 400000 in
theorem refVarint_any (f : Nat) : ∀ (n : Nat) (w : World), f ≤ 9 → n < 128 ^ (f + 1) → n ≤ 9223372036854775807 →
    Calls Tryz.prog 40 #[.int .i64 n] w fun e w' => e = .returned (.string ⟨(Pl.varintF f n).toArray⟩) ∧ Below w.heap.size w w' := by
  induction f with
  | zero =>
    intro n w hf9 hf hn
    have hlt : n < 128 := by omega
    have hcv := conv_one (w.alloc (.cells #[.int .u8 n] 5)) w.heap.size 1 n (by omega) (World.cell?_alloc_new _ _ _ 0)
    have HV : Hid (Pl.varintF 0 n = [UInt8.ofNat n]) := Pl.varintF_small 0 n hlt
    go_enter Tryz.func40, Tryz.ntmps40
    go_wp2
    go_ret
    exact ⟨by rw [HV.out]; rfl, (Below.refl _ _).alloc (Nat.le_refl _) _⟩
  | succ f ih =>
    intro n w hf9 hf hn
    by_cases hlt : n < 128
    · have hcv := conv_one (w.alloc (.cells #[.int .u8 n] 5)) w.heap.size 1 n (by omega) (World.cell?_alloc_new _ _ _ 0)
      have HV : Hid (Pl.varintF (f + 1) n = [UInt8.ofNat n]) := Pl.varintF_small _ n hlt
      go_enter Tryz.func40, Tryz.ntmps40
      go_wp2
      go_ret
      exact ⟨by rw [HV.out]; rfl, (Below.refl _ _).alloc (Nat.le_refl _) _⟩
    · have HV : Hid (Pl.varintF (f + 1) n = UInt8.ofNat (n % 128 + 128) :: Pl.varintF f (n / 128)) := Pl.varintF_big f n hlt
      have C : Hid (∀ W : World, Calls Tryz.prog 40 #[.int .i64 ((n : Int) / 128)] W fun e w' => e = .returned (.string ⟨(Pl.varintF f (n / 128)).toArray⟩) ∧ Below W.heap.size W w') := fun W => ih (n / 128) W (by omega) (by rw [Nat.pow_succ] at hf; omega) (by omega)
      have hx : IntKind.u8.wrap (IntKind.i64.wrap (128 + (n : Int).tmod 128)) = ((n % 128 + 128 : Nat) : Int) := by
        rw [Int.tmod_eq_emod_of_nonneg (by omega), IntKind.wrap_i64, IntKind.wrap_u8]; omega
      have hcv : ∀ (W : World) (g : Nat), W.cell? ⟨g, 0, none⟩ = some (.int .u8 (IntKind.u8.wrap (IntKind.i64.wrap (128 + (n : Int).tmod 128)))) → (convert 83 9 (.slice (some ⟨g, 0, none⟩) 1 1)).run Tryz.prog W = .ok (.string ⟨#[UInt8.ofNat (n % 128 + 128)]⟩) W :=
        fun W g h => conv_one W g 1 (n % 128 + 128) (by omega) (by rw [h, hx])
      have hdv : IntKind.i64.wrap ((n : Int) / 128) = (n : Int) / 128 := by rw [IntKind.wrap_i64]; omega
      rw [← hdv] at C
      clear hx hdv
      have hyl := Pl.varintF_length f (n / 128)
      generalize Pl.varintF f (n / 128) = ys at *
      have hs1 : ¬ 9223372036854775807 < 1 + ys.length := by omega
      have hs2 : 1 + ys.length ≤ 9223372036854775807 := by omega
      generalize UInt8.ofNat (n % 128 + 128) = bt at *
      have HA : Hid ((⟨#[bt]⟩ : ByteArray) ++ ⟨ys.toArray⟩ = ⟨(bt :: ys).toArray⟩) := ByteArray.mk_append_mk [bt] ys
      clear ih hf hyl
      go_enter Tryz.func40, Tryz.ntmps40
      go_wp2
      as_aux_lemma =>
        go_region_with (first | (go_at_call 40; refine (C.out _).mono ?_; rintro e w2 ⟨rfl, hb2⟩; first | (have q0 : w2.cell? ⟨w.heap.size, 0, none⟩ = some (.int .u8 (IntKind.u8.wrap (IntKind.i64.wrap (128 + (n : Int).tmod 128)))) := (hb2.cell (p := ⟨w.heap.size, 0, none⟩) (by show w.heap.size < (w.alloc _).heap.size; simp)).trans (World.cell?_alloc_new _ _ _ 0)) | skip))
        all_goals
          have HB2 := hide hb2
          clear hb2
          go_wp2
          go_ret
          refine ⟨by rw [HV.out, ← HA.out]; rfl, ?_⟩
          first
          | exact ((Below.refl _ _).drew.trans (HB2.out.mono (Nat.le_refl _))).alloc HB2.out.size _
          | exact ((Below.refl _ _).alloc (Nat.le_refl _) _).drew.trans (HB2.out.mono (by show w.heap.size ≤ (w.alloc _).heap.size; simp))
end Go.Proofs.YtamcclcbmenjdaaGreatDoor

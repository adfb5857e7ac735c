/- choirkeep's at, samples, joined. -/
import Derived.Test.YtcidgfdiacehmaaSameG
import Derived.Test.YtcidgfdiacehmaaBothPure
import Derived.Test.YtcidgfdiacehmaaJoined
namespace Go.Proofs.Ytcidgfdiacehmaa
open Go.RowKit Go.Lib

theorem countS_take {bs : List Ser} {m : Nat} {x : Ser} (hx : bs[m]? = some x) : countS (bs.take (m + 1)) = countS (bs.take m) + x.2.length := by
  rw [List.take_add_one, hx]
  simp [countS, keysOf]
theorem countS_le {bs : List Ser} (h : LimitsOk bs) : countS bs ≤ 320 := by
  have : countS bs ≤ 40 * bs.length := by
    have hm := limits_mem h
    clear h
    induction bs with
    | nil => simp [countS, keysOf]
    | cons s r ih =>
      have h1 := (hm s (List.mem_cons_self ..)).2
      have h2 := ih fun x hx => hm x (List.mem_cons_of_mem _ hx)
      have e : countS (s :: r) = s.2.length + countS r := by simp [countS, keysOf]
      rw [e, List.length_cons]; omega
  have := h.2; omega
theorem countS_take_le (bs : List Ser) (m : Nat) : countS (bs.take m) ≤ countS bs := by
  conv => rhs; rw [← List.take_append_drop m bs]
  simp only [countS, keysOf_app, List.length_append]; omega
set_option maxRecDepth 100000 in
set_option maxHeartbeats 1000000 in
theorem ksamples_any (v : Value) (bs : List Ser) (w : World) (h : BatchAt w w.heap.size v bs) (hlim : LimitsOk bs) :
    Calls Try.prog 9 #[v] w fun e w' => e = .returned (.int .i64 (countS bs)) ∧ Below w.heap.size w w' := by
  obtain ⟨a, c, rfl, _⟩ := id h
  have H := hide h
  have hll := hlim.2
  have HLim := hide (limits_mem hlim)
  have hcs := countS_le hlim
  clear h hlim
  go_enter Try.func9, Try.ntmps9
  go_wp2
  go_loopw [3, 4] (fun n i wr => ∃ m : Nat, m ≤ bs.length ∧ i = .int .i64 m ∧ n = .int .i64 (countS (bs.take m)) ∧ wr = w) (fun _ i _ => bs.length - (intOf i).toNat)
  case atStart => exact ⟨0, Nat.zero_le _, rfl, rfl, rfl⟩
  case round =>
    obtain ⟨m, hm, rfl, rfl, rfl⟩ := hrel
    by_cases hlt : m < bs.length
    · obtain ⟨⟨ll, sl⟩, hx⟩ : ∃ x, bs[m]? = some x := ⟨_, List.getElem?_eq_getElem hlt⟩
      obtain ⟨b1, o1, la1, lc1, sa1, sc1, rfl, _, p1, p2, -, -⟩ := H.out.get hx
      have hct : countS (bs.take (m + 1)) = countS (bs.take m) + sl.length := countS_take hx
      have hcl := countS_take_le bs (m + 1)
      simp only at p1 p2
      clear hx
      generalize hN : countS (bs.take m) = N at *
      have HN := hide hN
      have HCt := hide hct
      have hsum : N + sl.length ≤ 320 := by omega
      clear hN hct hcl
      go_wp2
      go_roundw
      case rel => exact ⟨m + 1, by omega, by go_num, by rw [HCt.out]; go_num, by trivial⟩
      case measure => simp [intOf]; omega
    · have e : m = bs.length := by omega
      subst e
      rw [List.take_length]
      go_wp2
      go_ret
      exact ⟨rfl, Below.refl _ _⟩

theorem batch_one {w : World} {B g : Nat} {lv : Value} {l : List Lab} (hc0 : w.cell? ⟨g, 0, none⟩ = some lv) (hc1 : w.cell? ⟨g, 1, none⟩ = some (.slice none 0 0)) (hg : g < B) (hl : LabelsAt w B lv l) : BatchAt w B (.slice (some ⟨g, 0, none⟩) 1 1) [(l, [])] :=
  ⟨_, 1, rfl, Nat.le_refl _, .inr ⟨g, 0, rfl, hg, fun i x hx => by
    match i, hx with
    | 0, hx =>
      have : x = (l, []) := by simpa using hx.symm
      subst this
      exact ⟨lv, _, hc0, hc1, hl, none, 0, rfl, Nat.le_refl _, (fun x h => by cases h), .inl rfl⟩
    | i + 1, hx => simp at hx⟩⟩
theorem small_one {l : List Lab} (h : l.length ≤ 10000000000000) : Small [(l, [])] :=
  ⟨by simp, fun s hs => by rw [List.mem_singleton.1 hs]; exact h, fun s hs => by rw [List.mem_singleton.1 hs]; simp⟩
theorem two_ranged {w : World} {B : Nat} {va vb : Value} {a b j : List Ser} (ha : BatchAt w B va a) (hb : BatchAt w B vb b) (hj : IsJoin [a, b] j) : ∀ s ∈ j, Ranged s := fun s hs x hx => by
  obtain ⟨⟨bs, hbs, r, hr, _, hm⟩, _⟩ := (hj.holds s.1 x.1 x.2).1 ⟨s, hs, rfl, hx⟩
  rcases List.mem_cons.1 hbs with e | hbs
  · rw [e] at hr; exact ha.ranged r hr _ hm
  · rw [List.mem_singleton.1 hbs] at hr; exact hb.ranged r hr _ hm
set_option maxRecDepth 100000 in
set_option maxHeartbeats 1000000 in
theorem kat_any (W : World) (v lv : Value) (bs : List Ser) (l : List Lab) (t : Int) (hb : BatchAt W W.heap.size v bs) (hl : LabelsAt W W.heap.size lv l) (hsm : Small bs) (hll : l.length ≤ 10000000000000) :
    Calls Try.prog 8 #[v, lv, .int .i64 t] W fun e w' => ∃ r, AtOf bs l t r ∧ e = .returned (.tuple #[.int .u64 ((r.getD 0 : Nat) : Int), .bool r.isSome]) ∧ Below W.heap.size W w' := by
  obtain ⟨va, vc, rfl, _⟩ := id hb
  obtain ⟨la, lc, rfl, _⟩ := id hl
  have HB := hide hb
  have HL := hide hl
  have HSm := hide hsm
  have hbl := hsm.series
  clear hb hl hsm
  go_enter Try.func8, Try.ntmps8
  go_wp2
  go_loopw [8, 9, 10] (fun i _ _ wr => ∃ m : Nat, m ≤ bs.length ∧ i = .int .i64 m ∧ Hid (∀ s ∈ bs.take m, s.1 = l → ∀ v, (t, v) ∉ s.2) ∧ Hid (Below W.heap.size W wr)) (fun i _ _ _ => bs.length - (intOf i).toNat)
  case atStart => exact ⟨0, Nat.zero_le _, rfl, fun s h => by simp at h, Below.refl _ _⟩
  case round =>
    obtain ⟨m, hm, rfl, HNo, HW⟩ := hrel
    by_cases hlt : m < bs.length
    · obtain ⟨⟨ll, sl⟩, hx⟩ : ∃ x, bs[m]? = some x := ⟨_, List.getElem?_eq_getElem hlt⟩
      have hBr := HB.out.below HW.out (Nat.le_refl _)
      have hLr := HL.out.below HW.out (Nat.le_refl _)
      obtain ⟨b1, o1, la1, lc1, sa1, sc1, rfl, hb1, p1, p2, L1, S1⟩ := hBr.get hx
      have hs0 := HW.out.size
      have hl1 := HSm.out.labels _ (List.mem_of_getElem? hx)
      have hs1 := HSm.out.samples _ (List.mem_of_getElem? hx)
      simp only at p1 p2 L1 S1 hl1 hs1
      have C := hide (same_iff (.slice (some ⟨wr.heap.size, 0, none⟩) 1 1) (.slice (some ⟨wr.heap.size + 1, 0, none⟩) 1 1) [(ll, [])] [(l, [])] ((wr.alloc (.cells #[.slice la1 ll.length lc1, .slice none 0 0] 37)).alloc (.cells #[.slice la l.length lc, .slice none 0 0] 37))
        (batch_one (lv := .slice la1 ll.length lc1) ((World.cell?_alloc_old _ _ _ (by simp)).trans (World.cell?_alloc_new _ _ _ 0)) ((World.cell?_alloc_old _ _ _ (by simp)).trans (World.cell?_alloc_new _ _ _ 1)) (by simp; omega) ((L1.kept fun k hk => (heap_alloc_old _ _ (by simp; omega)).trans (heap_alloc_old _ _ (by omega))).wider (by simp; omega)))
        (batch_one (lv := .slice la l.length lc) (by rw [World.cell?_alloc_at _ _ _ _ (by simp)]; rfl) (by rw [World.cell?_alloc_at _ _ _ _ (by simp)]; rfl) (by simp) ((hLr.kept fun k hk => (heap_alloc_old _ _ (by simp; omega)).trans (heap_alloc_old _ _ (by omega))).wider (by simp; omega)))
        (small_one hl1) (small_one hll))
      have HS := hide S1
      have HX := hide hx
      clear hBr hLr L1 S1 hx
      go_wp2_with fail
      refine C.out.mono ?_
      rintro e w2 ⟨⟨r, rfl, hr⟩, hb2⟩
      have HB2 : Hid (Below wr.heap.size wr w2) := (((Below.refl wr.heap.size wr).alloc (Nat.le_refl _) _).alloc (by simp) _).trans (hb2.mono (by simp; omega))
      have HW2 : Hid (Below W.heap.size W w2) := HW.out.trans (HB2.out.mono hs0)
      have c1 := (HB2.out.cell (p := ⟨b1, o1 + m * 2, none⟩) (by show b1 < _; omega)).trans p1
      have c2 := (HB2.out.cell (p := ⟨b1, o1 + m * 2 + 1, none⟩) (by show b1 < _; omega)).trans p2
      have HR : Hid (r = true ↔ ll = l) := hr.trans ⟨fun e => by simpa using e, fun e => by rw [e]⟩
      have HS2 := hide (HS.out.below HB2.out hs0)
      clear C HB2 HW HS hb2 hr p1 p2
      cases r with
      | true =>
        have hll2 : ll = l := HR.out.1 rfl
        go_wp2
        go_loopw [10] (fun i w3 => ∃ k : Nat, k ≤ sl.length ∧ i = .int .i64 k ∧ w3 = w2 ∧ Hid (∀ y ∈ sl.take k, y.1 ≠ t)) (fun i _ => sl.length - (intOf i).toNat)
        case atStart => exact ⟨0, Nat.zero_le _, rfl, rfl, fun y h => by simp at h⟩
        case round =>
          obtain ⟨k, hk, rfl, rfl, HK⟩ := hrel
          by_cases hkl : k < sl.length
          · obtain ⟨⟨tx, bx⟩, hy⟩ : ∃ x, sl[k]? = some x := ⟨_, List.getElem?_eq_getElem hkl⟩
            obtain ⟨e1, f1, rfl, u1, u2⟩ := samGet HS2.out hy
            simp only at u1 u2
            by_cases ht : tx = t
            · subst ht
              have HA : Hid (AtOf bs l tx (some bx)) := ⟨(ll, sl), List.mem_of_getElem? HX.out, hll2, List.mem_of_getElem? hy⟩
              clear hy
              go_wp2
              go_ret2
              exact ⟨some bx, HA.out, by trivial, HW2.out⟩
            · have HK2 : Hid (∀ y ∈ sl.take (k + 1), y.1 ≠ t) := fun y hyt => by
                rw [List.take_add_one, hy] at hyt
                rcases List.mem_append.1 hyt with h | h
                · exact HK.out y h
                · have : y = (tx, bx) := by simpa using h
                  rw [this]; exact ht
              clear hy HK
              go_wp2
              go_roundw
              case rel => exact ⟨k + 1, by omega, by go_num, by trivial, HK2.out⟩
              case measure => simp [intOf]; omega
          · have HN2 : Hid (∀ s ∈ bs.take (m + 1), s.1 = l → ∀ v, (t, v) ∉ s.2) := fun s hs e v hv => by
              rw [List.take_add_one, HX.out] at hs
              rcases List.mem_append.1 hs with h | h
              · exact HNo.out s h e v hv
              · have : s = (ll, sl) := by simpa using h
                subst this
                have h2 : (t, v) ∈ sl.take k := by rw [List.take_of_length_le (by omega)]; exact hv
                exact HK.out _ h2 rfl
            clear HK
            go_wp2
            go_roundw
            case rel => exact ⟨m + 1, by omega, by go_num, HN2.out, HW2.out⟩
            case measure => simp [intOf]; omega
      | false =>
        have HN2 : Hid (∀ s ∈ bs.take (m + 1), s.1 = l → ∀ v, (t, v) ∉ s.2) := fun s hs e v hv => by
          rw [List.take_add_one, HX.out] at hs
          rcases List.mem_append.1 hs with h | h
          · exact HNo.out s h e v hv
          · have : s = (ll, sl) := by simpa using h
            subst this
            exact absurd (HR.out.2 e) (by decide)
        go_wp2
        go_loopw [10] (fun i w3 => i = .int .i64 0 ∧ w3 = w2) (fun _ _ => 0)
        case atStart => exact ⟨rfl, rfl⟩
        case round =>
          obtain ⟨rfl, rfl⟩ := hrel
          go_wp2
          go_roundw
          case rel => exact ⟨m + 1, by omega, by go_num, HN2.out, HW2.out⟩
          case measure => simp [intOf]; omega
    · have HA : Hid (AtOf bs l t none) := fun v ⟨s, hs, e, hv⟩ => HNo.out s (by rw [List.take_of_length_le (by omega)]; exact hs) e v hv
      go_wp2
      go_ret2
      exact ⟨none, HA.out, rfl, HW.out⟩

set_option maxRecDepth 100000 in
set_option maxHeartbeats 1000000 in
theorem kjoined_any (W : World) (va vb : Value) (a b : List Ser) (ha : BatchAt W W.heap.size va a) (hb : BatchAt W W.heap.size vb b) (hsa : Small a) (hsb : Small b) (oa : BatchOk a) (ob : BatchOk b) (la : LimitsOk a) (lb : LimitsOk b) (hlim : ∀ j, IsJoin [a, b] j → LimitsOk j) :
    Calls Try.prog 7 #[va, vb] W fun e w' => ∃ jv j, IsJoin [a, b] j ∧ e = .returned (.tuple #[jv, .bool true]) ∧ BatchAt w' w'.heap.size jv j ∧ LimitsOk j ∧ Below W.heap.size W w' := by
  have C := hide (join_any W va vb a b ha hb hsa hsb)
  have HA := hide ha
  have HB := hide hb
  obtain ⟨aa, ac, rfl, -⟩ := id ha
  obtain ⟨ba, bc, rfl, -⟩ := id hb
  clear ha hb
  go_enter Try.func7, Try.ntmps7
  go_wp2_with fail
  refine C.out.mono ?_
  rintro e w2 ⟨n, j, hj, hb2, hr⟩
  obtain ⟨hJ, hC⟩ : IsJoin [a, b] j ∧ Code j n := by
    rcases hj with ⟨_, h⟩ | ⟨_, _, _, h⟩ | ⟨_, _, _, _, h⟩
    · exact absurd ⟨oa, ob⟩ h
    · exact absurd ⟨la, lb⟩ h
    · exact h
  have hL := hlim j hJ
  obtain rfl : n = 0 := by
    rcases hC with ⟨_, h⟩ | ⟨_, _, h⟩ | ⟨h, _⟩
    · exact absurd hJ.ok h
    · exact absurd hL h
    · exact h
  rcases hr with ⟨_, jv, rfl, hF⟩ | ⟨h, _⟩
  · have hA : BatchAt w2 w2.heap.size jv j := hF.batchAt (two_ranged HA.out HB.out hJ)
    have HR : Hid (IsJoin [a, b] j ∧ BatchAt w2 w2.heap.size jv j ∧ LimitsOk j ∧ Below W.heap.size W w2) := ⟨hJ, hA, hL, hb2⟩
    clear hj hb2 hJ hC hL hF hA C HA HB hlim
    go_wp2
    go_ret2
    exact ⟨_, j, HR.out.1, rfl, HR.out.2⟩
  · exact absurd rfl h
end Go.Proofs.Ytcidgfdiacehmaa

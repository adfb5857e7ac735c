/- 'choirkeep.Sound', for any list of steps (200 of them are done): whatever happens, each replica has nothing but what was written somewhere; and as long as it is up, what it once had. The first form's statement and its card: no condition beside the row's own. -/
import Derived.Test.YtamcclcbmenjdaaGreatDoorSoundG44
import Derived.Test.YtamcclcbmenjdaaGreatDoorSoundG42
import Derived.Test.YtamcclcbmenjdaaGreatDoorSoundG22
import Derived.Test.YtamcclcbmenjdaaGreatDoorSoundG23
import Derived.Test.YtamcclcbmenjdaaGreatDoorSoundG43
/- choirkeep's made: is each sample of a list a sample of one of the series of another? -/
namespace Go.Proofs.YtamcclcbmenjdaaGreatDoor
open Go.RowKit Go.Lib

theorem made_at {s : Ser} {l : List Lab} {t : Int} {v : Nat} {r : Option Nat} (hp : s.2.Pairwise SLt) (hl : s.1 = l) (hx : (t, v) ∈ s.2) (h : AtOf [s] l t r) : r = some v := by
  cases r with
  | none => exact absurd ⟨s, List.mem_singleton.2 rfl, hl, hx⟩ (h v)
  | some y =>
    obtain ⟨s', hs', _, hy⟩ := h
    rw [List.mem_singleton.1 hs'] at hy
    rw [pair_unique hp hy hx]
theorem batch_sub {w : World} {B b o c : Nat} {A : List Ser} (h : BatchAt w B (.slice (some ⟨b, o, none⟩) A.length c) A) {j : Nat} {x : Ser} (hx : A[j]? = some x) : BatchAt w B (.slice (some ⟨b, o + j * 2, none⟩) 1 (c - j)) [x] := by
  obtain ⟨a', c', hv, hc, h2⟩ := h
  cases hv
  have hj := (List.getElem?_eq_some_iff.1 hx).1
  rcases h2 with rfl | ⟨b', o', e, hb, h2⟩
  · cases hx
  · cases e
    refine ⟨_, _, rfl, by simp; omega, .inr ⟨b, o + j * 2, rfl, hb, fun i y hy => ?_⟩⟩
    match i, hy with
    | 0, hy =>
      have : x = y := by simpa using hy
      subst this
      simpa using h2 j x hx
    | i + 1, hy => simp at hy
/-- What was found among the first m series. -/
def FoundTo (A : List Ser) (l : List Lab) (t : Int) (v : Nat) (m : Nat) (f : Bool) : Prop := ∀ i s, i < m → A[i]? = some s → s.1 = l → (t, v) ∈ s.2 → f = true
theorem FoundTo.next {A : List Ser} {l : List Lab} {t : Int} {v m : Nat} {f : Bool} {s : Ser} {r : Option Nat} (h : FoundTo A l t v m f) (hs : A[m]? = some s) (hp : s.2.Pairwise SLt) (ha : AtOf [s] l t r) (g : Bool) (hg : f = true ∨ r = some v → g = true) : FoundTo A l t v (m + 1) g := fun i s' hi hs' hl hx => by
  by_cases e : i = m
  · subst e
    rw [hs] at hs'
    cases hs'
    exact hg (.inr (made_at hp hl hx ha))
  · exact hg (.inl (h i s' (by omega) hs' hl hx))
theorem FoundTo.made {A x : List Ser} (hm : Made A x) {l : List Lab} {t : Int} {v : Nat} {f : Bool} {s : Ser} (hs : s ∈ x) (hl : s.1 = l) (hx : (t, v) ∈ s.2) (h : FoundTo A l t v A.length f) : f = true := by
  obtain ⟨s', hs', hl', hx'⟩ := hm l t v ⟨s, hs, hl, hx⟩
  obtain ⟨i, hi, e⟩ := List.mem_iff_getElem.1 hs'
  exact h i s' hi (by rw [List.getElem?_eq_getElem hi, e]) hl' hx'
set_option maxRecDepth 100000 in
set_option maxHeartbeats 8000000 in
theorem made_any (W : World) (va vb : Value) (a A : List Ser) (hA : BatchAt W W.heap.size va a) (hB : BatchAt W W.heap.size vb A) (sma : Small a) (smb : Small A) (hp : ∀ s ∈ A, s.2.Pairwise SLt) (hg : Made A a) :
    Calls Tryz.prog 21 #[va, vb] W fun e w' => e = .returned (.bool true) ∧ Below W.heap.size W w' := by
  obtain ⟨aa, ac, rfl, -⟩ := id hA
  obtain ⟨ba, bc, rfl, hbc, -⟩ := id hB
  have HA := hide hA
  have HB := hide hB
  have HSa := hide sma
  have HSb := hide smb
  have HP := hide hp
  have HG := hide hg
  have hal := sma.series
  have hbl := smb.series
  clear hA hB sma smb hp hg
  go_enter Tryz.func21, Tryz.ntmps21
  go_wp2
  go_loopw [5, 6, 7, 8, 9, 10] (fun i _ _ _ _ _ wr => ∃ m : Nat, m ≤ a.length ∧ i = .int .i64 m ∧ Hid (Below W.heap.size W wr)) (fun i _ _ _ _ _ _ => a.length - (intOf i).toNat)
  case atStart => exact ⟨0, Nat.zero_le _, rfl, Below.refl _ _⟩
  case round =>
    obtain ⟨m, hm, rfl, HW⟩ := hrel
    by_cases hlt : m < a.length
    · obtain ⟨⟨ll, sl⟩, hx⟩ : ∃ x, a[m]? = some x := ⟨_, List.getElem?_eq_getElem hlt⟩
      have hl1 := HSa.out.labels _ (List.mem_of_getElem? hx)
      have hs1 := HSa.out.samples _ (List.mem_of_getElem? hx)
      obtain ⟨lb, lo, la1, lc1, sa1, sc1, rfl, hlb1, p1, p2, L1, S1⟩ := HA.out.get hx
      simp only at p1 p2 L1 S1 hl1 hs1
      have HL1 := hide L1
      have HS1 := hide S1
      have HX := hide hx
      clear hx L1 S1
      go_wp2
      go_loopw [6, 7, 8, 9, 10] (fun k _ _ _ _ wr => ∃ q : Nat, q ≤ sl.length ∧ k = .int .i64 q ∧ Hid (Below W.heap.size W wr)) (fun k _ _ _ _ _ => sl.length - (intOf k).toNat)
      case atStart => exact ⟨0, Nat.zero_le _, rfl, HW.out⟩
      case round =>
        clear HW
        obtain ⟨q, hq, rfl, HW⟩ := hrel
        by_cases hql : q < sl.length
        · obtain ⟨⟨tx, bx⟩, hy⟩ : ∃ x, sl[q]? = some x := ⟨_, List.getElem?_eq_getElem hql⟩
          have d2 := (HW.out.cell (p := ⟨lb, lo + m * 2 + 1, none⟩) hlb1).trans p2
          have HF : Hid (∀ f, FoundTo A ll tx bx A.length f → f = true) := fun f h => FoundTo.made HG.out (List.mem_of_getElem? HX.out) rfl (List.mem_of_getElem? hy) h
          have HY := hide hy
          clear hy
          go_wp2
          clear d2
          go_loopw [7, 8, 9, 10] (fun f k _ _ wr => ∃ (z : Nat) (fb : Bool), z ≤ A.length ∧ k = .int .i64 z ∧ f = .bool fb ∧ Hid (FoundTo A ll tx bx z fb) ∧ Hid (Below W.heap.size W wr)) (fun _ k _ _ _ => A.length - (intOf k).toNat)
          case atStart => exact ⟨0, false, Nat.zero_le _, rfl, rfl, fun i s h => absurd h (Nat.not_lt_zero _), HW.out⟩
          case round =>
            clear HW
            obtain ⟨z, fb, hz, rfl, rfl, HFo, HW⟩ := hrel
            have hsw := HW.out.size
            by_cases hzl : z < A.length
            · obtain ⟨s, hsz⟩ : ∃ x, A[z]? = some x := ⟨_, List.getElem?_eq_getElem hzl⟩
              obtain ⟨g1, g2, -, -, -, -, rfl, -⟩ := HB.out.get hsz
              have d1 := (HW.out.cell (p := ⟨lb, lo + m * 2, none⟩) hlb1).trans p1
              have d2 := (HW.out.cell (p := ⟨lb, lo + m * 2 + 1, none⟩) hlb1).trans p2
              obtain ⟨e1, f1, rfl, u1, u2⟩ := samGet (HS1.out.below HW.out (Nat.le_refl _)) HY.out
              simp only at u1 u2
              have hlbw : lb < wr.heap.size := Nat.lt_of_lt_of_le hlb1 hsw
              have he1w : e1 < wr.heap.size := World.block_lt_of_cell? wr _ u1
              have hss : Small [s] := ⟨by simp, fun x hx => by rw [List.mem_singleton.1 hx]; exact HSb.out.labels s (List.mem_of_getElem? hsz), fun x hx => by rw [List.mem_singleton.1 hx]; exact HSb.out.samples s (List.mem_of_getElem? hsz)⟩
              have HNx : Hid (∀ r g, AtOf [s] ll tx r → (fb = true ∨ r = some bx → g = true) → FoundTo A ll tx bx (z + 1) g) := fun r g h1 h2 => HFo.out.next hsz (HP.out s (List.mem_of_getElem? hsz)) h1 g h2
              have CA : Hid (∀ W2, Below wr.heap.size wr W2 → Calls Tryz.prog 58 #[.slice (some ⟨g1, g2 + z * 2, none⟩) 1 (bc - z), .slice la1 ll.length lc1, .int .i64 tx] W2 fun e w' => ∃ r, AtOf [s] ll tx r ∧ e = .returned (.tuple #[.int .u64 ((r.getD 0 : Nat) : Int), .bool r.isSome]) ∧ Below wr.heap.size wr w') := fun W2 h2 => by
                have h5 := HW.out.trans (h2.mono hsw)
                exact (kat_any W2 _ _ [s] ll tx (batch_sub ((HB.out.below h5 (Nat.le_refl _)).wider h5.size) hsz) ((HL1.out.below h5 (Nat.le_refl _)).wider h5.size) hss hl1).mono fun e w' ⟨r, h1, h3, h4⟩ => ⟨r, h1, h3, h2.trans (h4.mono h2.size)⟩
              clear hsz hss HFo
              have hz0 : (0 : Int) ≤ (z : Int) := by omega
              have hz1 : IntKind.i64.wrap ((z : Int) + 1) = (z : Int) + 1 := by rw [IntKind.wrap_i64]; omega
              have hz2 : (z : Int) ≤ (z : Int) + 1 := by omega
              have hz3 : (z : Int) + 1 ≤ (bc : Int) := by omega
              have hz4 : (z : Int) ≤ (bc : Int) := by omega
              have hz5 : (0 : Int) ≤ (z : Int) + 1 := by omega
              have hz6 : ¬ bc = z := by omega
              go_wp2
              as_aux_lemma =>
                go_region_held3 (fun w' => w'.cell? ⟨lb, lo + m * 2, none⟩ = some (.slice la1 ll.length lc1) ∧ w'.cell? ⟨lb, lo + m * 2 + 1, none⟩ = some (.slice (some ⟨e1, f1, none⟩) sl.length sc1) ∧ w'.cell? ⟨e1, f1 + q * 2, none⟩ = some (.int .i64 tx)) (go_keep) (first | (go_at_call 58; refine (CA.out _ (by first | exact (Below.refl _ _).drew | exact Below.refl _ _)).mono ?_; rintro e w6 ⟨u, hu, rfl, hb6⟩; have x1 := (hb6.cell (p := ⟨lb, lo + m * 2, none⟩) hlbw).trans d1; have x2 := (hb6.cell (p := ⟨lb, lo + m * 2 + 1, none⟩) hlbw).trans d2; have x3 := (hb6.cell (p := ⟨e1, f1 + q * 2, none⟩) he1w).trans u1) | fail)
                all_goals
                  have HW6 : Hid (Below W.heap.size W w6) := HW.out.trans (hb6.mono hsw)
                  have x4 := (hb6.cell (p := ⟨e1, f1 + q * 2 + 1, none⟩) he1w).trans u2
                  have HU := hide hu
                  clear hu hb6 CA HW d1 d2 u1 u2 hz0 hz1 hz2 hz3 hz4 hz5 hz6
                  cases fb with
                  | true =>
                    go_wp2
                    go_roundw
                    case rel => exact ⟨z + 1, true, by omega, by go_num, rfl, HNx.out u true HU.out (fun _ => rfl), HW6.out⟩
                    case measure => simp [intOf]; omega
                  | false =>
                    cases u with
                    | none =>
                      go_wp2
                      go_roundw
                      case rel => exact ⟨z + 1, false, by omega, by go_num, rfl, HNx.out none false HU.out (fun h => by rcases h with h | h <;> cases h), HW6.out⟩
                      case measure => simp [intOf]; omega
                    | some y =>
                      by_cases hyb : y = bx
                      · subst hyb
                        go_wp2
                        go_roundw
                        case rel => exact ⟨z + 1, true, by omega, by go_num, rfl, HNx.out _ true HU.out (fun _ => rfl), HW6.out⟩
                        case measure => simp [intOf]; omega
                      · have hyi : ¬ (y : Int) = (bx : Int) := by omega
                        go_wp2
                        go_roundw
                        case rel => exact ⟨z + 1, false, by omega, by go_num, congrArg Value.bool (beq_eq_false_iff_ne.2 hyi), HNx.out _ false HU.out (fun h => by rcases h with h | h; cases h; exact absurd (Option.some.inj h) hyb), HW6.out⟩
                        case measure => simp [intOf]; omega
            · obtain rfl : z = A.length := by omega
              obtain rfl := HF.out fb HFo.out
              go_wp2
              go_roundw
              case rel => exact ⟨q + 1, by omega, by go_num, HW.out⟩
              case measure => simp [intOf]; omega
        · have d2 := (HW.out.cell (p := ⟨lb, lo + m * 2 + 1, none⟩) hlb1).trans p2
          go_wp2
          go_roundw
          case rel => exact ⟨m + 1, by omega, by go_num, HW.out⟩
          case measure => simp [intOf]; omega
    · go_wp2
      go_ret
      exact ⟨rfl, HW.out⟩
end Go.Proofs.YtamcclcbmenjdaaGreatDoor

/- choirkeep's Sound. -/
namespace Go.Proofs.YtamcclcbmenjdaaGreatDoor
open Go.RowKit Go.Lib

theorem small_all {A : List Ser} (h : ∀ s ∈ A, s.1.length ≤ 4 ∧ s.2.length ≤ 40 ∧ s.2.Pairwise SLt) (hl : A.length ≤ 100000) : Small A :=
  ⟨by omega, fun s hs => by have := (h s hs).1; omega, fun s hs => by have := (h s hs).2.1; omega⟩
set_option maxRecDepth 100000 in
set_option maxHeartbeats 2000000 in
theorem sound_any (W : World) (v : Value) (l : List ActIn) (h : ActsAt W W.heap.size v l) (hT : Tabs W) :
    Calls Tryz.prog 6 #[v] W fun e w' => e = .returned (.bool true) ∧ Below W.heap.size W w' := by
  obtain ⟨i0, hi, hz0, hz1, hz2⟩ := info_parts Tryz.infoSer
  obtain ⟨xa, xc, rfl, -⟩ := id h
  have hlt := hT.lt
  have HX := hide h
  have C1 := hide (begun_any W hT)
  clear h hT
  go_enter Tryz.func6, Tryz.ntmps6
  go_wp2_with fail
  refine C1.out.mono ?_
  rintro e w1 hbe
  obtain rfl := hbe.ans
  have HBe := hide hbe
  clear C1 hbe
  have hs1 : W.heap.size + 3 ≤ w1.heap.size := HBe.out.ser.lt
  have HI2 : Hid (SInv W (w1.alloc (.cells #[.slice none 0 0, .slice none 0 0, .slice none 0 0] 57)) w1.heap.size (.slice (some ⟨W.heap.size + 2, 0, none⟩) 1 1) Sb3 b0 b0 180033 (fun _ => .slice none 0 0) (fun _ => [])) := by
    have hb : Below w1.heap.size w1 (w1.alloc (.cells #[.slice none 0 0, .slice none 0 0, .slice none 0 0] 57)) := (Below.refl _ _).alloc (Nat.le_refl _) _
    refine ⟨HBe.out.clu.below hb, ok_b3, ?_, (HBe.out.all (by simp [KA, Value.ownBlock]) (by simp [KA, Value.ownBlock]; omega)).step (Stay.below hb) (fun k e => hb.block k (by cases e; exact HBe.out.ser.lt)), fun s hs => ?_, ?_, Blk.new w1 _ _, fun r _ => SafeK.nil _ _, fun r _ => ok_nil.2.1, fun r _ _ => Grows.nil _, HBe.out.tabs.below hb (by omega), by omega, ?_, HBe.out.below.trans (hb.mono HBe.out.below.size), by omega⟩
    · have h1 : CSnd [] S0 := ⟨fun k _ => ⟨Made.nil _, [], fun b hb => (by cases hb), List.prefix_refl _, fun _ => rfl⟩, fun m hm => by cases hm⟩
      have h2 := snd_step ok_S0 h1 begS1
      have h3 := snd_step ok_b1 h2 begS2
      have h4 := snd_step ok_b2 h3 begS3
      simpa using h4
    · rw [List.mem_singleton.1 hs]
      exact ⟨by simp, by simp, List.pairwise_singleton _ _⟩
    · intro j v k hj hc hk hm
      have hc' : w1.cell? ⟨W.heap.size, j * 5 + 1, none⟩ = some v := (hb.cell (p := ⟨W.heap.size, j * 5 + 1, none⟩) HBe.out.clu.way.lt).symm.trans hc
      have h3 := HBe.out.clu.lt1 hj hc' hk
      rcases List.mem_cons.1 hm with e | hm
      · omega
      · exact HBe.out.apart j v k hj hc' hk (by simpa [Value.ownBlock] using hm)
    · intro e
      have e2 : W.heap.size + 2 = w1.heap.size := by simpa [Value.ownBlock] using e
      omega
  clear HBe
  go_wp2
  go_loopw [4, 6, 7, 8, 9, 10, 11, 12] (fun av i _ _ _ _ _ _ wr => ∃ (m : Nat) (S : CS) (A : List Ser) (bv : Nat → Value) (bl : Nat → List Ser), m ≤ 200 ∧ m ≤ l.length ∧ i = .int .i64 m ∧ A.length ≤ 8 * m + 8 ∧ Hid (SInv W wr w1.heap.size av S A A (60011 * m + 180033) bv bl) ∧ Hid (∀ r, r < 3 → (S.r r).up = false → bl r = [])) (fun _ i _ _ _ _ _ _ _ => l.length - (intOf i).toNat)
  case atStart => exact ⟨0, Sb3, b0, _, _, by omega, Nat.zero_le _, rfl, by simp [b0], HI2.out, fun r hr hu => rfl⟩
  case round =>
    clear HI2
    obtain ⟨m, S, A, bv, bl, hm, hml, rfl, hAl, HI, HD⟩ := hrel
    by_cases hlt2 : m < l.length
    · have hmi : (m : Int) < (l.length : Int) := by omega
      by_cases h200 : m < 200
      · have h2i : (m : Int) < 200 := by omega
        obtain ⟨x, hx⟩ : ∃ x, l[m]? = some x := ⟨_, List.getElem?_eq_getElem hlt2⟩
        obtain ⟨xb, xo, ra, rc, rfl, hxb, hxo, c0, c1, c2, c3, c4, hR⟩ := (HX.out.below HI.out.below).get hx
        have C2 := hide (act_step wr W.heap.size _ S x ra rc W.heap.size HI.out.clu HI.out.ok (by omega) HI.out.tabs HI.out.two hxo HI.out.below.size hR)
        obtain ⟨kd, rr, xa, xc', raws⟩ := x
        simp only at c0 c1 c2 c3 c4 C2
        clear hx hR hxo
        go_wp2_with fail
        refine C2.out.mono ?_
        rintro e w3 ⟨bv3, b, S', rfl, hst, hc3, ht3, hf3⟩
        have HI3 := hide (HI.out.act HD.out hst hc3 ht3)
        have hs3 := ht3.size
        obtain ⟨ba, bc, rfl, -⟩ := hf3.2 w3 (Nat.le_refl _) (fun _ _ _ => rfl)
        have hbl : b.length ≤ 8 := by
          rcases step_b hst with rfl | ⟨_, h1, _⟩
          · simp
          · exact h1.2
        obtain ⟨-, us, hup, hsrc, hus⟩ := safe_pairs (K := KA W.heap.size w1.heap.size u4) (hf3.safe fun k hk => .inl (HI.out.mem hk).2) (fun k e hm => by have h1 := hf3.1 k e; have h2 := (HI.out.mem hm).2; omega)
        obtain ⟨vals, hvl, hvo, hvk, hvp⟩ := HI3.out.all
        have HVo := hide hvo
        have HVp := hide hvp
        have HUp := hide hup
        have HUs := hide hus
        have HSrc := hide hsrc
        have HVl := hide hvl
        have hws : W.heap.size + 1 ≤ w3.heap.size := by have h1 := HI.out.below.size; have h2 := HI.out.clu.way.lt; omega
        clear hst hc3 ht3 hf3 hup hsrc hus hvl hvo hvk hvp C2 HI HD c0 c1 c2 c3 c4
        go_wp2_with (at_builtin; refine wpList_append_spread _ rfl (.tmp 35) (.tmp 36) 39 rfl (W.heap.size + 1) 38 i0 (.agg #[.slice none 0 0, .slice none 0 0]) 2 48 Tryz.underlying39 hi hz0 hz1 hz2 rfl (by decide) u4 A.length (serCells vals) rfl HVo.out ba b.length bc (serCells us) rfl (pairs_len HUp.out) HSrc.out HUp.out.oneCell (by unfold maxLen; omega) (by omega) hws ?_)
        intro av' w4 ho4 hg4 hh4
        have HI4 := hide (HI3.out.app HVl.out HVp.out HUp.out HUs.out ho4 hg4 hh4)
        clear ho4 hg4 hh4 HVo HVp HUp HUs HSrc HVl HI3
        go_wp2
        go_loopw [8, 9, 10, 11, 12] (fun q _ _ _ _ wr => ∃ (n : Nat) (bv : Nat → Value) (bl : Nat → List Ser), n ≤ 3 ∧ q = .int .i64 n ∧ Hid (SInv W wr w1.heap.size av' S' (A ++ b) (A ++ b) (60011 * m + 180033 + 60011) bv bl) ∧ Hid (∀ r, r < n → (S'.r r).up = false → bl r = [])) (fun q _ _ _ _ _ => 3 - (intOf q).toNat)
        case atStart => exact ⟨0, bv, bl, by omega, rfl, HI4.out, fun r hr => absurd hr (Nat.not_lt_zero _)⟩
        case round =>
          clear HI4
          obtain ⟨n, bv, bl, hn, rfl, HI, HD⟩ := hrel
          by_cases hn3 : n < 3
          · have hni : (n : Int) < 3 := by omega
            obtain ⟨sv, lp, hrep⟩ := HI.out.clu.rep n hn3
            have C5 := hide (khas_any wr W.heap.size n _ hn3 _ sv lp hrep (HI.out.ok.rep n hn3))
            clear hrep
            go_wp2_with fail
            refine C5.out.mono ?_
            rintro e w5 ⟨hr, hb5⟩
            have HI5 := hide (HI.out.kept hb5)
            have hs5 := hb5.size
            have hcell := HI5.out.cell hn3
            have hfro := HI5.out.bef.frozen n
            obtain ⟨va, vc, hva, -⟩ := (HI5.out.safe n hn3).here
            rw [hva] at hcell
            have HVa := hide hva
            have HMem : Hid (∀ k ∈ KA W.heap.size w1.heap.size av', k < wr.heap.size) := fun k hk => (HI.out.mem hk).2
            clear C5 hb5 hva HI
            rcases hr with ⟨hu, rfl⟩ | ⟨hu, x, c, rfl, hf⟩
            · have HU := hide hu
              clear hu
              have HI6 := hide (HI5.out.store hn3 (SafeK.nil _ _) ok_nil.2.1 (fun _ => Grows.nil _))
              go_wp2
              go_roundw
              case rel => exact ⟨n + 1, _, _, by omega, by go_num, HI6.out, fun r hr hu => by
                by_cases e : r = n
                · simp only [if_pos e]
                · simp only [if_neg e]; exact HD.out r (by omega) hu⟩
              case measure => simp [intOf]; omega
            · have hrk := HI5.out.ok.rep n hn3
              have C6 := hide (within_any w5 (bv n) _ (bl n) (S'.r n).bs (HI5.out.safe n hn3).here (hf.batchAt hrk.rng) (small_of_limits (HI5.out.lim n hn3)) (small_of_limits hrk.lim) hrk.ok (HI5.out.grow n hn3 hu))
              rw [HVa.out] at C6
              have HU := hide hu
              have HF5 := hide hf
              have HRk := hide hrk
              clear hu hf hrk
              go_wp2_with fail
              refine C6.out.mono ?_
              rintro e w6 ⟨rfl, hb6⟩
              have HI6 := hide (HI5.out.kept hb6)
              have HF6 := hide (fresh_kept HF5.out hb6)
              have C7 := hide (made_any w6 _ av' (S'.r n).bs (A ++ b) (HF6.out.batchAt HRk.out.rng) HI6.out.all.batchAt (small_of_limits HRk.out.lim) (small_all HI6.out.aok (by simp; omega)) (fun s hs => (HI6.out.aok s hs).2.2) (HI6.out.snd.rep n hn3).made)
              clear hb6 C6 HI5 HF5 hcell hfro HVa
              go_wp2_with fail
              refine C7.out.mono ?_
              rintro e w7 ⟨rfl, hb7⟩
              have HI7 := hide (HI6.out.kept hb7)
              have HF7 := hide (fresh_kept HF6.out hb7)
              have hcell := HI7.out.cell hn3
              have hfro := HI7.out.bef.frozen n
              have HI8 := hide (HI7.out.store hn3 (fresh_safek HF7.out HRk.out.rng fun k hk => .inl (HMem.out k hk)) HRk.out.lim (fun _ => Grows.refl _))
              clear hb7 C7 HI6 HF6 HI7 HF7 HRk HMem
              go_wp2
              go_roundw
              case rel => exact ⟨n + 1, _, _, by omega, by go_num, HI8.out, fun r hr hu => by
                by_cases e : r = n
                · subst e
                  rw [HU.out] at hu; cases hu
                · simp only [if_neg e]; exact HD.out r (by omega) hu⟩
              case measure => simp [intOf]; omega
          · have hni : ¬ (n : Int) < 3 := by omega
            obtain rfl : n = 3 := by omega
            have HI9 : Hid (SInv W wr w1.heap.size av' S' (A ++ b) (A ++ b) (60011 * (m + 1) + 180033) bv bl) := by
              have e : 60011 * m + 180033 + 60011 = 60011 * (m + 1) + 180033 := by omega
              rw [← e]; exact HI.out
            clear HI
            go_wp2
            go_roundw
            case rel => exact ⟨m + 1, S', A ++ b, bv, bl, by omega, by omega, by go_num, by simp; omega, HI9.out, HD.out⟩
            case measure => simp [intOf]; omega
      · have h2i : ¬ (m : Int) < 200 := by omega
        have HE := hide HI.out.below
        go_wp2
        go_ret
        exact ⟨rfl, HE.out⟩
    · have hmi : ¬ (m : Int) < (l.length : Int) := by omega
      have HE := hide HI.out.below
      go_wp2
      go_ret
      exact ⟨rfl, HE.out⟩
end Go.Proofs.YtamcclcbmenjdaaGreatDoor

/- A list of steps that came in: what it is in memory. -/
namespace Go.Proofs.YtamcclcbmenjdaaGreatDoor
open Go.RowKit Go.Lib Go.ChangeShapes Go.WideShapes

theorem cellsAct : Tryz.prog.cellsOf 60 = 5 := by kernel_rfl
theorem bytesAct : Tryz.prog.bytesOf 60 = 56 := by kernel_rfl
theorem cellsRaws : Tryz.prog.cellsOf 45 = 1 := by kernel_rfl
theorem trod_struct5 {H : Type} {enc : TypeId × Value → H} {P : Program} {w : World} {base : Nat} {spare : TypeId → Bool} {held : Bool} {t : TypeId} {f0 f1 f2 f3 f4 : Field} {fuel : Nat} {cs : List Value} {x : DataW H × List MemPlace} (ht : P.underlying t = some (.struct #[f0, f1, f2, f3, f4])) (h : DataW.trod enc P w base spare held fuel t cs = some x) :
    ∃ y0 y1 y2 y3 y4 n, x.1 = .agg [y0.1, y1.1, y2.1, y3.1, y4.1] ∧ cs.length = P.cellsOf t ∧ DataW.trod enc P w base spare held n f0.type ((cs.drop f0.offset).take (P.cellsOf f0.type)) = some y0 ∧
      DataW.trod enc P w base spare held n f1.type ((cs.drop f1.offset).take (P.cellsOf f1.type)) = some y1 ∧ DataW.trod enc P w base spare held n f2.type ((cs.drop f2.offset).take (P.cellsOf f2.type)) = some y2 ∧
      DataW.trod enc P w base spare held n f3.type ((cs.drop f3.offset).take (P.cellsOf f3.type)) = some y3 ∧ DataW.trod enc P w base spare held n f4.type ((cs.drop f4.offset).take (P.cellsOf f4.type)) = some y4 := by
  obtain ⟨xs, n, _, rfl, hl, hlen, hf⟩ := DataW.trod_struct ht h
  match xs, hlen with
  | [y0, y1, y2, y3, y4], _ => exact ⟨y0, y1, y2, y3, y4, n, by simp, hl, by simpa using hf 0 f0 rfl, by simpa using hf 1 f1 rfl, by simpa using hf 2 f2 rfl, by simpa using hf 3 f3 rfl, by simpa using hf 4 f4 rfl⟩
theorem Light.five {H : Type} {t : TypeId} {f0 f1 f2 f3 f4 : Field} {d0 d1 d2 d3 d4 : DataW H} (hu : Tryz.prog.underlying t = some (.struct #[f0, f1, f2, f3, f4])) (h : Light t (.agg [d0, d1, d2, d3, d4])) : Light f4.type d4 := fun n hn => by
  have hw : (DataW.agg [d0, d1, d2, d3, d4]).weights Tryz.prog t = d0.weights Tryz.prog f0.type ++ (d1.weights Tryz.prog f1.type ++ (d2.weights Tryz.prog f2.type ++ (d3.weights Tryz.prog f3.type ++ (d4.weights Tryz.prog f4.type ++ [])))) := by
    rw [DataW.weights, hu]; rfl
  apply h
  rw [hw]
  exact List.mem_append_right _ (List.mem_append_right _ (List.mem_append_right _ (List.mem_append_right _ (List.mem_append_left _ hn))))
theorem raws_cs {H : Type} {enc : TypeId × Value → H} {W : World} {n : Nat} {cs : List Value} {y : DataW H × List MemPlace} (h : DataW.trod enc Tryz.prog W 0 (fun _ => true) true n 45 cs = some y) (hw : Light 45 y.1) :
    ∃ (raws : List (Int × Int × Nat)) (ra : Option Addr) (rc : Nat), cs = [.slice ra raws.length rc] ∧ RawsAt W W.heap.size (.slice ra raws.length rc) raws ∧ raws.length ≤ 100000000000000 := by
  have hsh : ∃ a len cap, cs = [.slice a len cap] := by
    rcases Go.Deep.open_slice Tryz.underlying45 h with ⟨hcs, _⟩ | ⟨a, len', cap', m, n, D, Pl, hcs, _⟩
    · exact ⟨_, _, _, hcs⟩
    · exact ⟨_, _, _, hcs⟩
  obtain ⟨a, len, cap, rfl⟩ := hsh
  obtain ⟨d, ps⟩ := y
  obtain ⟨raws, hR, hlen⟩ := raws_of (H := H) ⟨n, h⟩
  obtain ⟨a', c', hv, _⟩ := id hR
  cases hv
  refine ⟨raws, a, cap, rfl, hR, ?_⟩
  rcases hlen with ⟨_, h0⟩ | ⟨elems, spare, rfl, h0⟩
  · omega
  · have h2 := hw.len Tryz.underlying45
    rw [Tryz.bytesRaw] at h2
    have := reachBytes_lt
    omega
/-- A step that came in. -/
def ActCells (W : World) (z : ActIn) (cs : List Value) : Prop := ∃ ra rc, cs = [.int .i64 z.kd, .int .i64 z.rr, .int .i64 z.a, .int .i64 z.c, .slice ra z.raws.length rc] ∧ z.Ok ∧ RawsAt W W.heap.size (.slice ra z.raws.length rc) z.raws
theorem act_in {H : Type} {enc : TypeId × Value → H} {W : World} (n : Nat) (cs : List Value) (y : DataW H × List MemPlace) (h : DataW.trod enc Tryz.prog W 0 (fun _ => true) true n 60 cs = some y) (hw : Light 60 y.1) : ∃ z : ActIn, ActCells W z cs := by
  obtain ⟨y0, y1, y2, y3, y4, n, hy, hl, h0, h1, h2, h3, h4⟩ := trod_struct5 Tryz.underlying60 h
  rw [hy] at hw
  have hw4 := hw.five Tryz.underlying60
  rw [cellsAct] at hl
  simp only [cellsIntR, cellsRaws] at h0 h1 h2 h3 h4
  obtain ⟨m0, e0, _, w0⟩ := DataW.trod_int Tryz.underlying3 h0
  obtain ⟨m1, e1, _, w1⟩ := DataW.trod_int Tryz.underlying3 h1
  obtain ⟨m2, e2, _, w2⟩ := DataW.trod_int Tryz.underlying3 h2
  obtain ⟨m3, e3, _, w3⟩ := DataW.trod_int Tryz.underlying3 h3
  obtain ⟨raws, ra, rc, e4, hR, hrl⟩ := raws_cs h4 hw4
  match cs, hl, e0, e1, e2, e3, e4 with
  | [c0, c1, c2, c3, c4], _, e0, e1, e2, e3, e4 =>
    simp at e0 e1 e2 e3 e4
    subst e0 e1 e2 e3 e4
    exact ⟨⟨m0, m1, m2, m3, raws⟩, ra, rc, rfl, ⟨wf_i64 w0, wf_i64 w1, wf_i64 w2, wf_i64 w3, hrl⟩, hR⟩
/-- A list of steps that came in. -/
theorem acts_of {H : Type} {enc : TypeId × Value → H} {W : World} {a0 : Option Addr} {len cap : Nat} {d : DataW H} {ps : List MemPlace} (h : DataW.Trod enc Tryz.prog W 0 (fun _ => true) true 53 (.slice a0 len cap) d ps) (hw : Light 53 d) :
    ∃ l, ActsAt W W.heap.size (.slice a0 len cap) l ∧ l.length ≤ 100000000000000 := by
  obtain ⟨fuel, hf⟩ := h
  have hf' : DataW.trod enc Tryz.prog W 0 (fun _ => true) true fuel 53 [.slice a0 len cap] = some (d, ps) := hf
  rcases Go.Deep.open_slice Tryz.underlying53 hf' with ⟨hcs, hx⟩ | ⟨a, len', cap', m, n, D, Pl, hcs, hb, hl, hm, hmm, hx, hel⟩
  · cases hcs
    exact ⟨[], ⟨none, 0, rfl, (fun x hx => by cases hx), .inl rfl⟩, by simp⟩
  · cases hcs
    simp only [if_true] at hmm
    subst hmm
    have hd : d = .slice ((List.range len).map D) ((List.range (m - len)).map fun j => D (len + j)) := congrArg Prod.fst hx
    rw [hd] at hw
    rw [cellsAct] at hel
    have each : ∀ i, i < len → ∃ z : ActIn, z.Ok ∧ W.cell? (a.add (i * 5)) = some (.int .i64 z.kd) ∧ W.cell? ((a.add (i * 5)).add 1) = some (.int .i64 z.rr) ∧ W.cell? ((a.add (i * 5)).add 2) = some (.int .i64 z.a) ∧ W.cell? ((a.add (i * 5)).add 3) = some (.int .i64 z.c) ∧
        ∃ rv, W.cell? ((a.add (i * 5)).add 4) = some rv ∧ RawsAt W W.heap.size rv z.raws := fun i hi => by
      obtain ⟨cs', h1, h2⟩ := hel i (by omega)
      obtain ⟨_, hlen, hcell⟩ := World.cells?_some h1
      obtain ⟨z, ra, rc, rfl, hok, hR⟩ := act_in n cs' _ h2 (hw.elem Tryz.underlying53 (List.mem_map.2 ⟨i, List.mem_range.2 hi, rfl⟩))
      have q0 := hcell 0 (by omega)
      have q1 := hcell 1 (by omega)
      have q2 := hcell 2 (by omega)
      have q3 := hcell 3 (by omega)
      have q4 := hcell 4 (by omega)
      have z0 : (a.add (i * 5)).add 0 = a.add (i * 5) := by unfold Addr.add; simp
      rw [z0] at q0
      exact ⟨z, hok, q0, q1, q2, q3, _, q4, hR⟩
    have hlen2 : len ≤ 100000000000000 := by
      have h1 := hw.len Tryz.underlying53
      rw [bytesAct] at h1
      simp at h1
      have := reachBytes_lt
      omega
    have : Inhabited ActIn := ⟨⟨0, 0, 0, 0, []⟩⟩
    obtain ⟨F, hF⟩ := Go.Deep.choose_lt each
    refine ⟨(List.range len).map F, ⟨some a, m, by simp, fun x hx => ?_, ?_⟩, by simpa using hlen2⟩
    · obtain ⟨i, hi, rfl⟩ := List.mem_map.1 hx
      exact (hF i (List.mem_range.1 hi)).1
    · by_cases h0 : len = 0
      · subst h0; exact .inl rfl
      · obtain ⟨b, o, spot⟩ := a
        have hs : spot = none := by
          have := (hF 0 (by omega)).2.1
          simpa [Addr.add] using World.cell?_spot this
        subst hs
        refine .inr ⟨b, o, rfl, World.block_lt_of_cell? W _ (hF 0 (by omega)).2.1, fun i x hx => ?_⟩
        have hi : i < len := by have := (List.getElem?_eq_some_iff.1 hx).1; simpa using this
        have e : x = F i := by
          rw [List.getElem?_map, List.getElem?_range hi] at hx
          exact (Option.some.inj hx).symm
        subst e
        have hh := (hF i hi).2
        simp only [addr_add] at hh
        exact hh
theorem Tryz.actReads : Tryz.prog.readableRec 53 = true := by kernel_rfl
theorem Tryz.actType : 53 < Tryz.prog.types.size := of_decide_eq_true (by kernel_rfl)
end Go.Proofs.YtamcclcbmenjdaaGreatDoor

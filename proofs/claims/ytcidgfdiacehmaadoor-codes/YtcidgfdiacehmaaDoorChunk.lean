/- packChunk. -/
import Derived.Test.YtcidgfdiacehmaaDoorPutBits
namespace Go.Proofs.YtcidgfdiacehmaaDoor
open Go.RowKit

/-- A time as 64 bits. -/
def u64 (t : Int) : Nat := (t % 18446744073709551616).toNat
theorem u64_le (t : Int) : u64 t ≤ 18446744073709551615 := by unfold u64; omega
theorem wrap_u64_int (t : Int) : IntKind.u64.wrap t = (u64 t : Int) := by rw [IntKind.wrap_u64, u64]; omega

/-- A slice value whose samples lie below block B. -/
def SamplesAt (w : World) (B : Nat) (v : Value) (l : List (Int × Nat)) : Prop :=
  ∃ a cap, v = .slice a l.length cap ∧ l.length ≤ cap ∧ (∀ x ∈ l, -9223372036854775808 ≤ x.1 ∧ x.1 ≤ 9223372036854775807 ∧ x.2 ≤ 18446744073709551615) ∧
    (l = [] ∨ ∃ b o, a = some ⟨b, o, none⟩ ∧ b < B ∧ ∀ i x, l[i]? = some x → w.cell? ⟨b, o + i * 2, none⟩ = some (.int .i64 x.1) ∧ w.cell? ⟨b, o + i * 2 + 1, none⟩ = some (.int .u64 x.2))

theorem SamplesAt.below {w w' : World} {B B' : Nat} {v : Value} {l : List (Int × Nat)} (h : SamplesAt w B v l) (hb : Below B' w w') (hB : B ≤ B') : SamplesAt w' B v l := by
  obtain ⟨a, cap, hv, hc, hr, h2⟩ := h
  refine ⟨a, cap, hv, hc, hr, ?_⟩
  rcases h2 with h2 | ⟨b, o, ha, hbB, hcell⟩
  · exact .inl h2
  · refine .inr ⟨b, o, ha, hbB, fun i x hx => ?_⟩
    obtain ⟨h1, h2⟩ := hcell i x hx
    exact ⟨(hb.cell (p := ⟨b, o + i * 2, none⟩) (by show b < B'; omega)).trans h1, (hb.cell (p := ⟨b, o + i * 2 + 1, none⟩) (by show b < B'; omega)).trans h2⟩

/-- The bits of the samples behind the first. -/
def goBits : Nat → Nat → Nat → Nat → Nat → List (Int × Nat) → List Bool
  | _, _, _, _, _, [] => []
  | t, s, b, a, z, x :: r => (timeBits t s (u64 x.1) ++ bitBits a z (x.2 ^^^ b)) ++ goBits (u64 x.1) (sub64 (u64 x.1) t) x.2 (nextA a z (x.2 ^^^ b)) (nextZ a z (x.2 ^^^ b)) r
def chunkBits : List (Int × Nat) → List Bool
  | [] => []
  | x :: r => (Pl.bitsOf (u64 x.1) 64 ++ Pl.bitsOf x.2 64) ++ goBits (u64 x.1) 0 x.2 0 0 r

theorem timeBits_app (l : List Bool) (t s x : Nat) : (l ++ timeBits t s x).length ≤ l.length + 69 := by
  rw [timeBits, ← List.append_assoc, List.length_append, Pl.bitsOf_length]
  have h1 := markOf_app l (stepWay (sub64 (sub64 x t) s)) 4
  have h2 := stepWay_le (sub64 (sub64 x t) s)
  have h3 := stepWidth_le (stepWay (sub64 (sub64 x t) s))
  omega
theorem bitBits_app (l : List Bool) (a z x : Nat) (hz : z ≤ 64) : (l ++ bitBits a z x).length ≤ l.length + 78 := by
  unfold bitBits
  split
  · have := markOf_app l 0 2; omega
  · split
    · rw [← List.append_assoc, List.length_append, Pl.bitsOf_length]; have := markOf_app l 1 2; omega
    · rw [← List.append_assoc, ← List.append_assoc, List.length_append, Pl.bitsOf_length, winBits_app]; have := markOf_app l 2 2
      have : newSize x ≤ 64 := by unfold newSize; omega
      omega
theorem next_bounds (a z x : Nat) (haz : a + z ≤ 64) (hx : x < 2 ^ 64) : nextA a z x + nextZ a z x ≤ 64 := by
  unfold nextA nextZ
  split
  · rename_i h
    have h0 : x ≠ 0 := by rintro rfl; simp [wayOf] at h
    have := new_bounds x h0 hx
    omega
  · exact haz

theorem Bytes.mono {base base' : Nat} {w : World} {v : Value} {xs : List UInt8} (h : Bytes base w v xs) (hb : base' ≤ base) : Bytes base' w v xs := by
  refine ⟨h.1, ?_⟩
  rcases h.2 with h2 | ⟨g, cap, cur, hv, hg, r⟩
  · exact .inl h2
  · exact .inr ⟨g, cap, cur, hv, Nat.le_trans hb hg, r⟩
theorem PK.bytes_ge {w : World} {pb : Nat} {v : Value} {bits : List Bool} {t s b a z : Nat} (h : PK w pb v bits t s b a z) : Bytes pb w v (Pl.pack bits) := h.bw.bytes.mono (Nat.le_succ pb)
theorem step_eq {r : List (Int × Nat)} {k : Nat} {y : Int × Nat} {t s b a z : Nat} {done all : List Bool} (hr : r[k]? = some y) (h : done ++ goBits t s b a z (r.drop k) = all) :
    done ++ (timeBits t s (u64 y.1) ++ bitBits a z (y.2 ^^^ b)) ++ goBits (u64 y.1) (sub64 (u64 y.1) t) y.2 (nextA a z (y.2 ^^^ b)) (nextZ a z (y.2 ^^^ b)) (r.drop (k + 1)) = all := by
  obtain ⟨hk, hy⟩ := List.getElem?_eq_some_iff.1 hr
  rw [List.drop_eq_getElem_cons hk, hy, goBits, ← List.append_assoc] at h
  exact h
theorem step_len {done : List Bool} {k t s b a z : Nat} {y : Int × Nat} (h : done.length ≤ 150 * k) (hz : z ≤ 64) : (done ++ (timeBits t s (u64 y.1) ++ bitBits a z (y.2 ^^^ b))).length ≤ 150 * (k + 1) := by
  rw [← List.append_assoc]
  have h1 := bitBits_app (done ++ timeBits t s (u64 y.1)) a z (y.2 ^^^ b) hz
  have h2 := timeBits_app done t s (u64 y.1)
  omega
theorem PK.init {w : World} {ti bi : Nat} (hT : Tabs w) : PK (w.alloc (.cells #[.slice none 0 0, .int .i64 0, .int .u64 ti, .int .u64 0, .int .u64 bi, .int .i64 0, .int .i64 0] 126)).drew w.heap.size (.slice none 0 0) [] ti 0 bi 0 0 := by
  have e : ∀ i, ((w.alloc (.cells #[.slice none 0 0, .int .i64 0, .int .u64 ti, .int .u64 0, .int .u64 bi, .int .i64 0, .int .i64 0] 126)).drew).cell? ⟨w.heap.size, i, none⟩ = (#[Value.slice none 0 0, .int .i64 0, .int .u64 ti, .int .u64 0, .int .u64 bi, .int .i64 0, .int .i64 0] : Array Value)[i]? := fun i => World.cell?_alloc_new _ _ _ i
  have f : ∀ i, ((w.alloc (.cells #[.slice none 0 0, .int .i64 0, .int .u64 ti, .int .u64 0, .int .u64 bi, .int .i64 0, .int .i64 0] 126)).drew).frozen? ⟨w.heap.size, i, none⟩ = false := fun i => World.frozen?_alloc_new _ _ _ i
  exact ⟨⟨e 0, e 1, f 0, f 1, World.ownsRow_nil _ _ _ _⟩, e 2, e 3, e 4, e 5, e 6, f, (hT.alloc _).drew, hT.lt⟩

set_option maxRecDepth 100000 in
set_option maxHeartbeats 400000 in
theorem packChunk_any (B : Nat) (v : Value) (x : Int × Nat) (r : List (Int × Nat)) (w : World) (hS : SamplesAt w B v (x :: r)) (hB : B ≤ w.heap.size) (hT : Tabs w) (hlen : r.length ≤ 300) :
    Calls Tryd.prog 66 #[v] w fun e w' => ∃ v', e = .returned v' ∧ Bytes w.heap.size w' v' (Pl.pack (chunkBits (x :: r))) ∧ Below w.heap.size w w' := by
  obtain ⟨a, cap, rfl, hcap, hwf, h2⟩ := hS
  rcases h2 with h2 | ⟨b, o, rfl, hb, hcell⟩
  · cases h2
  obtain ⟨ti, bi⟩ := x
  have hx := hwf (ti, bi) (by simp)
  have k0 := (hcell 0 (ti, bi) rfl).1
  have k1 := (hcell 0 (ti, bi) rfl).2
  simp only [Nat.zero_mul, Nat.add_zero] at k0 k1
  have hw0 := wrap_u64_int ti
  have hbw : b < w.heap.size := by omega
  have HC := hide hcell
  have HW := hide hwf
  have HT := hide hT
  simp only [List.length_cons] at hcap ⊢
  clear hcell hwf hT
  go_enter Tryd.func66, Tryd.ntmps66
  go_wp2
  go_region_held3 (fun w' => w'.cell? ⟨b, o, none⟩ = some (.int .i64 ti) ∧ w'.cell? ⟨b, o + 1, none⟩ = some (.int .u64 bi)) (go_keep) (fail)
  as_aux_lemma =>
    have P0 := PK.init (ti := u64 ti) (bi := bi) HT.out
    have HB0 : Hid (Below w.heap.size w (w.alloc (.cells #[.slice none 0 0, .int .i64 0, .int .u64 (u64 ti), .int .u64 0, .int .u64 bi, .int .i64 0, .int .i64 0] 126)).drew) := ((Below.refl _ _).alloc (Nat.le_refl _) _).drew
    have HP0 := hide P0
    have hbi : bi < 18446744073709551616 := by omega
    have hti : u64 ti < 18446744073709551616 := by have := u64_le ti; omega
    clear P0 k0 k1
    go_wp2_with fail
    refine (put_any w.heap.size 0 (u64 ti) 64 _ _ [] hti (by omega) (by simp) HP0.out.bw).mono ?_
    rintro e w1 ⟨rfl, v1, hb1, hw1, hh1⟩
    obtain ⟨P1, B1⟩ := HP0.out.wrote hb1 hw1 hh1
    have HB1 := hide (HB0.out.trans (B1.below HP0.out.bw.bytes HP0.out.bw.lt))
    have c4 := P1.c4
    have HP1 := hide P1
    clear P1 B1 hb1 hw1 hh1 HP0 HB0
    go_wp2_with fail
    refine (put_any w.heap.size 0 bi 64 v1 _ ([] ++ Pl.bitsOf (u64 ti) 64) hbi (by omega) (by simp [Pl.bitsOf_length]) HP1.out.bw).mono ?_
    rintro e w2 ⟨rfl, v2, hb2, hw2, hh2⟩
    obtain ⟨P2, B2⟩ := HP1.out.wrote hb2 hw2 hh2
    have HB2 := hide (HB1.out.trans (B2.below HP1.out.bw.bytes HP1.out.bw.lt))
    have HP2 := hide P2
    clear P2 B2 hb2 hw2 hh2 HP1 HB1 c4
    simp only [List.nil_append] at HP2
    by_cases hc1 : cap = 1
    · subst hc1
      obtain rfl : r = [] := List.eq_nil_of_length_eq_zero (by omega)
      simp only [List.length_nil] at hcap ⊢
      go_wp2
      refine wp_loop_rounds 1 ?_
      rw [rounds_succ]
      have c0 := HP2.out.bw.c0
      go_wp2
      go_ret
      exact ⟨_, rfl, by rw [chunkBits, goBits, List.append_nil]; exact HP2.out.bytes_ge, HB2.out⟩
    · have hc2 : 1 < cap := by omega
      go_wp2
      go_loopw [5, 30] (fun _ i wr => ∃ (k : Nat) (done : List Bool) (v' : Value) (t s b' a z : Nat), k ≤ r.length ∧ i = .int .i64 k ∧ PK wr w.heap.size v' (Pl.bitsOf (u64 ti) 64 ++ Pl.bitsOf bi 64 ++ done) t s b' a z ∧ Below w.heap.size w wr ∧
          t ≤ 18446744073709551615 ∧ s ≤ 18446744073709551615 ∧ b' ≤ 18446744073709551615 ∧ a + z ≤ 64 ∧ done.length ≤ 150 * k ∧ Hid (done ++ goBits t s b' a z (r.drop k) = goBits (u64 ti) 0 bi 0 0 r)) (fun _ i _ => r.length - (intOf i).toNat)
      case atStart => exact ⟨0, [], v2, _, _, _, _, _, Nat.zero_le _, rfl, by simpa using HP2.out, HB2.out, u64_le _, by omega, by omega, by omega, by simp, rfl⟩
      case round =>
        obtain ⟨k, done, v', t, s, b', a, z, hk, rfl, hP, hBl, ht, hs, hb', haz, hdl, HG⟩ := hrel
        clear HP2 HB2
        by_cases hlt : k < r.length
        · obtain ⟨⟨tk, bk⟩, hrk⟩ : ∃ y, r[k]? = some y := ⟨_, List.getElem?_eq_getElem hlt⟩
          have hyk := HW.out (tk, bk) (List.mem_cons_of_mem _ (List.mem_of_getElem? hrk))
          have hck := HC.out (k + 1) (tk, bk) (by simpa using hrk)
          have m0 : wr.cell? ⟨b, o + 2 + k * 2, none⟩ = some (.int .i64 tk) := by
            rw [hBl.cell (p := ⟨b, o + 2 + k * 2, none⟩) hbw, show o + 2 + k * 2 = o + (k + 1) * 2 by omega]; exact hck.1
          have m1 : wr.cell? ⟨b, o + 2 + k * 2 + 1, none⟩ = some (.int .u64 bk) := by
            rw [hBl.cell (p := ⟨b, o + 2 + k * 2 + 1, none⟩) hbw, show o + 2 + k * 2 + 1 = o + (k + 1) * 2 + 1 by omega]; exact hck.2
          have hwk := wrap_u64_int tk
          have hbk : bk ≤ 18446744073709551615 := hyk.2.2
          have hpb := hP.bw.lt
          have HP := hide hP
          have HBl := hide hBl
          have HR := hide hrk
          have hl1 : (Pl.bitsOf (u64 ti) 64 ++ Pl.bitsOf bi 64 ++ done).length ≤ 45128 := by
            rw [List.length_append, List.length_append, Pl.bitsOf_length, Pl.bitsOf_length]; omega
          have HL := hide hl1
          clear hP hBl hck hyk hl1 hrk hw0 hx
          go_wp2_with fail
          have K1 := HP.out.kept (w' := wr.alloc (.cells #[.int .i64 tk, .int .u64 bk] 56)) fun j hj => heap_alloc_old wr _ hj
          have hoB : some wr.heap.size ≠ v'.ownBlock := fun e => absurd (World.ownsRow.lt HP.out.bw.bytes _ e.symm).2 (Nat.lt_irrefl _)
          refine (putTime_any w.heap.size t s b' a z (u64 tk) v' _ _ ht hs (by have := HL.out; omega) K1).mono ?_
          rintro e w3 ⟨rfl, v3, P3, M3⟩
          have n1 : w3.cell? ⟨wr.heap.size, 1, none⟩ = some (.int .u64 bk) := (M3.cell_other (k := wr.heap.size) (by simp) (by omega) hoB 1).trans (World.cell?_alloc_new _ _ _ 1)
          have HB3 := hide ((HBl.out.alloc (by omega) (.cells #[.int .i64 tk, .int .u64 bk] 56)).trans (M3.below K1.bw.bytes K1.bw.lt))
          have hl3 := Nat.le_trans (timeBits_app (Pl.bitsOf (u64 ti) 64 ++ Pl.bitsOf bi 64 ++ done) t s (u64 tk)) (Nat.add_le_add_right HL.out 69)
          have HL3 := hide hl3
          have HP3 := hide P3
          clear P3 M3 K1 hoB hl3 m0 m1 HP HBl hwk
          go_wp2_with fail
          refine (putBits_any w.heap.size (u64 tk) (sub64 (u64 tk) t) b' a z bk v3 _ _ haz hb' hbk (by have := HL3.out; omega) HP3.out).mono ?_
          rintro e w4 ⟨rfl, v4, P4, M4⟩
          have HB4 := hide (HB3.out.trans (M4.below HP3.out.bw.bytes HP3.out.bw.lt))
          have HP4 := hide P4
          have HE := hide (step_eq (t := t) (s := s) (b := b') (a := a) (z := z) HR.out HG.out)
          have HD := hide (step_len (t := t) (s := s) (b := b') (a := a) (z := z) (y := (tk, bk)) hdl (by omega))
          have HA := hide (next_bounds a z (bk ^^^ b') haz (Nat.xor_lt_two_pow (by omega) (by omega)))
          clear P4 M4 HP3 HB3 HL HL3 HG n1
          go_wp2
          go_roundw
          case rel => exact ⟨k + 1, done ++ (timeBits t s (u64 tk) ++ bitBits a z (bk ^^^ b')), v4, _, _, _, _, _, by omega, by go_num, by rw [← List.append_assoc, ← List.append_assoc]; exact HP4.out, HB4.out, u64_le _, sub64_le _ _, hbk, HA.out, HD.out, HE.out⟩
          case measure => simp [intOf]; omega
        · have c0 := hP.bw.c0
          have HP := hide hP
          have HBl := hide hBl
          clear hP hBl
          go_wp2
          go_ret
          have hd : done = goBits (u64 ti) 0 bi 0 0 r := by
            have h := HG.out
            rw [List.drop_eq_nil_of_le (by omega), goBits, List.append_nil] at h
            exact h
          exact ⟨_, rfl, by rw [chunkBits, ← hd]; exact HP.out.bytes_ge, HBl.out⟩
end Go.Proofs.YtcidgfdiacehmaaDoor

/- 'choirkeep.Level', for any list of steps (100 of them are done): when all are up, nothing is under way, and each has told each other one, all have the same, and compacted logs are the same bytes. The first form's statement and its card: no condition beside the row's own. -/
import Derived.Test.YtamcclcbmenjdaaGreatDoorLevelG24
/- The reference: Chunk. -/
namespace Go.Proofs.YtamcclcbmenjdaaGreatDoor
open Go.RowKit Go.Lib

theorem xor_zero_eq {a b : Nat} (h : a ^^^ b = 0) : a = b := by
  have := congrArg (· ^^^ b) h
  simpa [Nat.xor_assoc] using this
theorem bitBits_zero (a z x : Nat) (h : x = 0) : bitBits a z x = [false] := by subst h; simp [bitBits, wayOf, markOf]
theorem next_zero (a z x : Nat) (h : x = 0) : nextA a z x = a ∧ nextZ a z x = z := by subst h; simp [nextA, nextZ, wayOf]
theorem way_holds {a z X : Nat} (h0 : X ≠ 0) (h : 0 < z ∧ a ≤ lz X ∧ (64 : Int) - a - z ≤ tz X) : wayOf a z X = 1 := by
  unfold wayOf holdsB; rw [if_neg h0, if_pos]; simp [h.1, h.2.1, h.2.2]
theorem way_not {a z X : Nat} (h0 : X ≠ 0) (h : ¬ (0 < z ∧ a ≤ lz X ∧ (64 : Int) - a - z ≤ tz X)) : wayOf a z X = 2 := by
  unfold wayOf holdsB; rw [if_neg h0, if_neg]; intro hh; apply h; simpa [Bool.and_eq_true] using hh
theorem bits_way1 {a z X : Nat} (h : wayOf a z X = 1) : [true, false] ++ Pl.bitsOf (X / 2 ^ (64 - a - z)) z = bitBits a z X := by unfold bitBits; rw [h]; rfl
theorem next_keep {a z X : Nat} (h : wayOf a z X = 1) : nextA a z X = a ∧ nextZ a z X = z := by unfold nextA nextZ; rw [h]; exact ⟨rfl, rfl⟩
theorem bits_way2 {a z X : Nat} (h : wayOf a z X = 2) : bitBits a z X = [true, true] ++ (Pl.bitsOf (newAhead X) 5 ++ (Pl.bitsOf (newSize X - 1) 6 ++ Pl.bitsOf (X / 2 ^ (64 - newAhead X - newSize X)) (newSize X))) := by unfold bitBits; rw [h]; simp [winBits, markOf]
theorem next_new {a z X : Nat} (h : wayOf a z X = 2) : nextA a z X = newAhead X ∧ nextZ a z X = newSize X := by unfold nextA nextZ; rw [h]; exact ⟨rfl, rfl⟩

/-- The K lowest bits of a number as a text. -/
def bwI (X K : Int) : ByteArray := zoS (Pl.bitsOf X.toNat K.toNat)
theorem bwI_size (X K : Int) : (bwI X K).size = K.toNat := by rw [bwI, zoS_size, Pl.bitsOf_length]
theorem bwI_any (X K : Int) (w : World) (h0 : 0 ≤ X) (h1 : X ≤ 18446744073709551615) (k0 : 0 ≤ K) (k1 : K ≤ 64) :
    Calls Tryz.prog 77 #[.int .u64 X, .int .i64 K] w fun e w' => e = .returned (.string (bwI X K)) ∧ Below w.heap.size w w' :=
  refBits_int X K X.toNat K.toNat w (by omega) (by omega) (by omega) (by omega)

/-- The two numbers of a window. -/
theorem bits_two (N M : Nat) (hN : N ≤ 64) (hM : M ≤ 64) (Y K : Int) (w : World) (h5 : K = 5 → Y = N) (h6 : K = 6 → Y = M) (h : K = 5 ∨ K = 6) :
    Calls Tryz.prog 77 #[.int .u64 Y, .int .i64 K] w fun e w' => e = .returned (.string (if K = 5 then bwI N 5 else bwI M 6)) ∧ Below w.heap.size w w' := by
  rcases h with rfl | rfl
  · rw [h5 rfl, if_pos rfl]; exact bwI_any _ _ _ (by omega) (by omega) (by omega) (by omega)
  · rw [h6 rfl, if_neg (by decide)]; exact bwI_any _ _ _ (by omega) (by omega) (by omega) (by omega)

set_option maxRecDepth 100000 in
set_option maxHeartbeats 40000000 in
theorem refChunk_any (B : Nat) (v : Value) (x : Int × Nat) (r : List (Int × Nat)) (w : World) (hS : SamplesAt w B v (x :: r)) (hB : B ≤ w.heap.size) (hr : r.length ≤ 300) :
    Calls Tryz.prog 43 #[v] w fun e w' => e = .returned (.string (zoS (chunkBits (x :: r)))) ∧ Below w.heap.size w w' := by
  obtain ⟨a, cap, rfl, hcap, hwf, h2⟩ := hS
  rcases h2 with h2 | ⟨b, o, rfl, hb, hcell⟩
  · cases h2
  obtain ⟨ti, bi⟩ := x
  have k0 := (hcell 0 _ rfl).1
  have k1 := (hcell 0 _ rfl).2
  simp only [Nat.zero_mul, Nat.add_zero] at k0 k1
  have hbi : bi ≤ 18446744073709551615 := (hwf (ti, bi) (List.mem_cons_self ..)).2.2
  have hbw : b < w.heap.size := by omega
  have hwt := wrap_u64_int ti
  have HC := hide hcell
  have HW := hide hwf
  have hut := u64_le ti
  have hu1 : (0 : Int) ≤ (u64 ti : Int) := by omega
  have hu2 : (u64 ti : Int) ≤ 18446744073709551615 := by omega
  have C := hide bsI_any
  have hsb := bsI_size
  have HZ : Hid (bsI (u64 ti) ++ bsI bi = zoS (Pl.bitsOf (u64 ti) 64 ++ Pl.bitsOf bi 64)) := by
    show _ = _
    rw [← zoS_append]; rfl
  simp only [List.length_cons] at hcap ⊢
  clear hcell hwf
  go_enter Tryz.func43, Tryz.ntmps43
  go_wp2
  go_region_held3 (fun w' => w'.cell? ⟨b, o, none⟩ = some (.int .i64 ti) ∧ w'.cell? ⟨b, o + 1, none⟩ = some (.int .u64 bi)) (go_keep) (first | (go_at_call 77; refine (C.out _ _ (by first | omega | (rw [hwt]; omega)) (by first | omega | (rw [hwt]; omega))).mono ?_; first | (rintro e w3 ⟨rfl, hb3⟩; have f1 := (hb3.cell (p := ⟨b, o, none⟩) (by show b < w2.heap.size; omega)).trans e1; have f2 := (hb3.cell (p := ⟨b, o + 1, none⟩) (by show b < w2.heap.size; omega)).trans e2; have hs3 := hb3.size) | (rintro e w2 ⟨rfl, hb2⟩; have e1 := (hb2.cell (p := ⟨b, o, none⟩) (by show b < w.heap.size; omega)).trans k0; have e2 := (hb2.cell (p := ⟨b, o + 1, none⟩) (by show b < w.heap.size; omega)).trans k1; have hs2 : w.heap.size ≤ w2.heap.size := hb2.size)))
  all_goals
    have HB3 := hide ((Below.refl w.heap.size w).drew.trans (hb2.trans (hb3.mono (by show w.heap.size ≤ w2.heap.size; omega))))
    have hpre : (bsI (u64 ti) ++ bsI bi).size = 128 := by rw [ByteArray.size_append, bsI_size, bsI_size]
    clear hb2 hb3 e1 e2 f1 f2 k0 k1
    generalize bsI (u64 ti) ++ bsI bi = sp at *
    as_aux_lemma =>
      go_wp2
      go_loopw [3, 4, 5, 6, 7, 8, 9, 10, 11] (fun sv dv lv zv i _ _ _ _ wr => ∃ (k : Nat) (done : List Bool) (sb : ByteArray) (tp : Int) (bp s a z : Nat), k ≤ r.length ∧ i = .int .i64 ((k + 1 : Nat) : Int) ∧ sv = .string sb ∧ dv = .int .u64 s ∧ lv = .int .i64 a ∧ zv = .int .i64 z ∧ Below w.heap.size w wr ∧
          s ≤ 18446744073709551615 ∧ a + z ≤ 64 ∧ done.length ≤ 150 * k ∧ sb.size ≤ 128 + 150 * k ∧ Hid (((ti, bi) :: r)[k]? = some (tp, bp)) ∧ Hid (sb = zoS (Pl.bitsOf (u64 ti) 64 ++ Pl.bitsOf bi 64 ++ done)) ∧ Hid (done ++ goBits (u64 tp) s bp a z (r.drop k) = goBits (u64 ti) 0 bi 0 0 r)) (fun _ _ _ _ i _ _ _ _ _ => r.length + 1 - (intOf i).toNat)
      case atStart => exact ⟨0, [], sp, ti, bi, 0, 0, 0, Nat.zero_le _, rfl, rfl, rfl, rfl, rfl, HB3.out, by omega, by omega, by simp, by omega, rfl, by show _ = _; rw [HZ.out, List.append_nil], rfl⟩
      case round =>
        obtain ⟨k, done, sb, tp, bp, s, a, z, hk, rfl, rfl, rfl, rfl, rfl, hBl, hs, haz, hdl, hsl, HP, HS, HG⟩ := hrel
        clear HB3 hpre HZ
        by_cases hlt : k < r.length
        · obtain ⟨⟨tk, bk⟩, hrk⟩ : ∃ y, r[k]? = some y := ⟨_, List.getElem?_eq_getElem hlt⟩
          have hyk := HW.out (tk, bk) (List.mem_cons_of_mem _ (List.mem_of_getElem? hrk))
          have hyp := HW.out (tp, bp) (List.mem_of_getElem? HP.out)
          have hck := HC.out (k + 1) (tk, bk) (by simpa using hrk)
          have hcp := HC.out k (tp, bp) HP.out
          have c1 : wr.cell? ⟨b, o + (k + 1) * 2, none⟩ = some (.int .i64 tk) := (hBl.cell (p := ⟨b, o + (k + 1) * 2, none⟩) hbw).trans hck.1
          have c2 : wr.cell? ⟨b, o + (k + 1) * 2 + 1, none⟩ = some (.int .u64 bk) := (hBl.cell (p := ⟨b, o + (k + 1) * 2 + 1, none⟩) hbw).trans hck.2
          have d1 : wr.cell? ⟨b, o + k * 2, none⟩ = some (.int .i64 tp) := (hBl.cell (p := ⟨b, o + k * 2, none⟩) hbw).trans hcp.1
          have d2 : wr.cell? ⟨b, o + k * 2 + 1, none⟩ = some (.int .u64 bp) := (hBl.cell (p := ⟨b, o + k * 2 + 1, none⟩) hbw).trans hcp.2
          have hwk := wrap_u64_int tk
          have hwp := wrap_u64_int tp
          have hbk : bk ≤ 18446744073709551615 := hyk.2.2
          have hbp : bp ≤ 18446744073709551615 := hyp.2.2
          have hj1 : (k : Int) < (r.length : Int) + 1 := by omega
          have hj2 : (0 : Int) ≤ (k : Int) := by omega
          have hi0 : (0 : Int) ≤ ((k + 1 : Nat) : Int) := by omega
          have hi1 : ((k + 1 : Nat) : Int) < (r.length : Int) + 1 := by omega
          have hi3 : (0 : Int) ≤ (k : Int) + 1 := by omega
          have hi4 : (k : Int) + 1 < (r.length : Int) + 1 := by omega
          have hi5 : ((k : Int) + 1).toNat = k + 1 := by omega
          have hi6 : IntKind.i64.wrap ((k : Int) + 1) = (k : Int) + 1 := by rw [IntKind.wrap_i64]; omega
          have hi2 : IntKind.i64.wrap ((k + 1 : Nat) : Int) = ((k + 1 : Nat) : Int) := by rw [IntKind.wrap_i64]; omega
          have hjw : IntKind.i64.wrap (k : Int) = (k : Int) := by rw [IntKind.wrap_i64]; omega
          have hjw2 : IntKind.i64.wrap (((k + 1 : Nat) : Int) - 1) = (k : Int) := by rw [IntKind.wrap_i64]; omega
          have hw1 := wrap_times tk tp
          have HR := hide hrk
          have HBl := hide hBl
          clear hyk hyp hck hcp hrk hBl
          go_wp2
          go_quiet (fail)
          go_wp2_with fail
          have hdd : sub64 (Go.Proofs.YtamcclcbmenjdaaGreatDoor.u64 tk) (Go.Proofs.YtamcclcbmenjdaaGreatDoor.u64 tp) ≤ 18446744073709551615 := sub64_le _ _
          have he := step_eq (done := done) (t := Go.Proofs.YtamcclcbmenjdaaGreatDoor.u64 tp) (s := s) (b := bp) (a := a) (z := z) HR.out HG.out
          have hd := step_len (t := Go.Proofs.YtamcclcbmenjdaaGreatDoor.u64 tp) (s := s) (b := bp) (a := a) (z := z) (y := (tk, bk)) hdl (by omega)
          simp only at he hd
          have HE := hide he
          have HD := hide hd
          have HR2 : Hid (((ti, bi) :: r)[k + 1]? = some (tk, bk)) := by show _ = _; simpa using HR.out
          clear he hd
          have HTB := hide (timeBits_step (Go.Proofs.YtamcclcbmenjdaaGreatDoor.u64 tp) s (Go.Proofs.YtamcclcbmenjdaaGreatDoor.u64 tk))
          generalize sub64 (Go.Proofs.YtamcclcbmenjdaaGreatDoor.u64 tk) (Go.Proofs.YtamcclcbmenjdaaGreatDoor.u64 tp) = dd at *
          have hse : sub64 dd s ≤ 18446744073709551615 := sub64_le _ _
          refine (refStep_int _ (sub64 dd s) _ (wrap_sub64 dd s hs) hse).mono ?_
          rintro e w4 ⟨rfl, hb4⟩
          have hs4 : w.heap.size ≤ w4.heap.size := Nat.le_trans HBl.out.size hb4.size
          have hsr : w.heap.size ≤ wr.heap.size := HBl.out.size
          have g1 := (Below.cell hb4 (p := ⟨b, o + (k + 1) * 2 + 1, none⟩) (by show b < wr.heap.size; omega)).trans c2; have g2 := (Below.cell hb4 (p := ⟨b, o + k * 2 + 1, none⟩) (by show b < wr.heap.size; omega)).trans d2
          have HB4 := hide ((below_drewN HBl.out _).trans (hb4.mono (by show w.heap.size ≤ wr.heap.size; omega)))
          have hst : (zoS (stepBits (sub64 dd s))).size ≤ 69 := by rw [zoS_size]; exact stepBits_len _
          have HS4 : Hid (sb ++ zoS (stepBits (sub64 dd s)) = zoS (Pl.bitsOf (Go.Proofs.YtamcclcbmenjdaaGreatDoor.u64 ti) 64 ++ Pl.bitsOf bi 64 ++ done ++ stepBits (sub64 dd s))) := by show _ = _; rw [HS.out, zoS_append]
          have hsz4 : (sb ++ zoS (stepBits (sub64 dd s))).size ≤ 128 + 150 * k + 69 := by rw [ByteArray.size_append]; omega
          have HN : Hid (∀ q, q = zoS (bitBits a z (bk ^^^ bp)) → (sb ++ zoS (stepBits (sub64 dd s))) ++ q = zoS (Pl.bitsOf (Go.Proofs.YtamcclcbmenjdaaGreatDoor.u64 ti) 64 ++ Pl.bitsOf bi 64 ++ (done ++ (timeBits (Go.Proofs.YtamcclcbmenjdaaGreatDoor.u64 tp) s (Go.Proofs.YtamcclcbmenjdaaGreatDoor.u64 tk) ++ bitBits a z (bk ^^^ bp))))) := by
            intro q hq
            rw [HS4.out, hq, zoS_append, HTB.out]; simp only [List.append_assoc]
          have HQ : Hid ((bitBits a z (bk ^^^ bp)).length ≤ 78) := by
            have := bitBits_app [] a z (bk ^^^ bp) (by omega)
            show _ ≤ _
            simpa using this
          generalize zoS (stepBits (sub64 dd s)) = st at *
          have hno4 : ¬ 9223372036854775807 < sb.size + st.size := by omega
          have hx := bits_xor_u64_is bk bp hbk hbp
          have hX : bk ^^^ bp < 2 ^ 64 := Nat.xor_lt_two_pow (by omega) (by omega)
          have C3 : Hid (∀ (Y : Int) (W : World), Y = ((bk ^^^ bp : Nat) : Int) → Calls Tryz.prog 77 #[.int .u64 Y, .int .i64 64] W fun e w' => e = .returned (.string (zoS (Pl.bitsOf (bk ^^^ bp) 64))) ∧ Below W.heap.size W w') := fun Y W hY => refBits_int Y 64 (bk ^^^ bp) 64 W hY rfl (by omega) (by decide)
          clear hb4 c1 c2 d1 d2 HBl HS hwk hwp hw1 HR HG
          go_wp2
          as_aux_lemma =>
            go_region_held3 (fun w' => w'.cell? ⟨b, o + (k + 1) * 2 + 1, none⟩ = some (.int .u64 bk) ∧ w'.cell? ⟨b, o + k * 2 + 1, none⟩ = some (.int .u64 bp)) (go_keep) (first | (go_at_call 77; refine (C3.out _ _ (by first | rfl | exact hx)).mono ?_; rintro e w5 ⟨rfl, hb5⟩; have m1 := (Below.cell hb5 (p := ⟨b, o + (k + 1) * 2 + 1, none⟩) (by show b < w4.heap.size; omega)).trans g1; have m2 := (Below.cell hb5 (p := ⟨b, o + k * 2 + 1, none⟩) (by show b < w4.heap.size; omega)).trans g2))
            all_goals
              have HB5 := hide (HB4.out.drew.trans (hb5.mono (by show w.heap.size ≤ w4.heap.size; omega)))
              have hs5 : w.heap.size ≤ w5.heap.size := Nat.le_trans hs4 hb5.size
              clear hb5 g1 g2 HB4 C3 hx
              by_cases heq : bk = bp
              · have hv := congrArg zoS (bitBits_zero a z (bk ^^^ bp) (by rw [heq, Nat.xor_self]))
                have hn := next_zero a z (bk ^^^ bp) (by rw [heq, Nat.xor_self])
                have HV := hide (HN.out ⟨#[48]⟩ hv.symm)
                rw [hn.1, hn.2] at HE
                have hbb : ((bk : Int) == (bp : Int)) = true := by rw [heq]; simp
                have hno5 : ¬ 9223372036854775807 < sb.size + st.size + 1 := by omega
                clear hv hn heq HQ HN HTB HS4
                go_wp2
                go_quiet (fail)
                go_wp2
                go_roundw
                case rel => exact ⟨k + 1, _, _, tk, bk, dd, a, z, by omega, by go_num, rfl, rfl, rfl, rfl, below_drewN HB5.out _, hdd, haz, HD.out, by rw [ByteArray.size_append]; show _ + 1 ≤ _; omega, HR2.out, HV.out, HE.out⟩
                case measure => simp [intOf]; omega
              · have hX0 : bk ^^^ bp ≠ 0 := fun h => heq (xor_zero_eq h)
                have hne : ((bk : Int) == (bp : Int)) = false := by simp; omega
                go_wp2
                go_quiet (fail)
                go_wp2_with fail
                refine (count_any (bk ^^^ bp) _ hX0 hX).mono ?_
                rintro e w6 ⟨rfl, rfl⟩
                have hlz := lz_tz (bk ^^^ bp) hX0 hX
                have hxs : (zoS (Pl.bitsOf (bk ^^^ bp) 64)).size = 64 := by rw [zoS_size, Pl.bitsOf_length]
                by_cases hH : 0 < z ∧ a ≤ lz (bk ^^^ bp) ∧ (64 : Int) - a - z ≤ tz (bk ^^^ bp)
                · have hway : wayOf a z (bk ^^^ bp) = 1 := way_holds hX0 hH
                  have hcut := cut_bits (bk ^^^ bp) a z haz
                  have HV : Hid ((sb ++ st) ++ (zoS [true, false] ++ (zoS (Pl.bitsOf (bk ^^^ bp) 64)).extract a (a + z)) = _) := HN.out _ (by rw [hcut, zoS_append, bits_way1 hway])
                  have hn := next_keep hway
                  rw [hn.1, hn.2] at HE
                  have hel : ((zoS (Pl.bitsOf (bk ^^^ bp) 64)).extract a (a + z)).size = z := by rw [hcut, zoS_size, Pl.bitsOf_length]
                  obtain ⟨h1, h2, h3⟩ := hH
                  clear hcut hn hway HN HQ HTB HS4
                  generalize lz (bk ^^^ bp) = L at *
                  generalize tz (bk ^^^ bp) = T at *
                  generalize zoS (Pl.bitsOf (bk ^^^ bp) 64) = xs at *
                  have hno5 : ¬ 9223372036854775807 < sb.size + st.size + 2 := by omega
                  have hno6 : ¬ 9223372036854775807 < sb.size + st.size + 2 + z := by omega
                  have q1 : (a : Int) ≤ (a : Int) + z := by omega
                  have q2 : (a : Int) + z ≤ 64 := by omega
                  have q3 : ((a : Int) + z).toNat = a + z := by omega
                  have q4 : (0 : Int) < z := by omega
                  have q5 : (a : Int) ≤ L := by omega
                  go_wp2
                  go_roundw
                  case rel => exact ⟨k + 1, _, _, tk, bk, dd, a, z, by omega, by go_num, rfl, rfl, rfl, rfl, below_drewN HB5.out _, hdd, haz, HD.out, by rw [ByteArray.size_append, ByteArray.size_append, hel]; show _ + 2 + _ ≤ _; omega, HR2.out, by rw [ByteArray.append_assoc]; exact HV.out, HE.out⟩
                  case measure => simp [intOf]; omega
                · have hway := way_not hX0 hH
                  have hnb := new_bounds (bk ^^^ bp) hX0 hX
                  have hn := next_new hway
                  rw [hn.1, hn.2] at HE
                  have hcut := cut_bits (bk ^^^ bp) (newAhead (bk ^^^ bp)) (newSize (bk ^^^ bp)) (by omega)
                  have hel : ((zoS (Pl.bitsOf (bk ^^^ bp) 64)).extract (newAhead (bk ^^^ bp)) (newAhead (bk ^^^ bp) + newSize (bk ^^^ bp))).size = newSize (bk ^^^ bp) := by rw [hcut, zoS_size, Pl.bitsOf_length]
                  have HV := hide (HN.out (zoS [true, true] ++ (zoS (Pl.bitsOf (newAhead (bk ^^^ bp)) 5) ++ (zoS (Pl.bitsOf (newSize (bk ^^^ bp) - 1) 6) ++ (zoS (Pl.bitsOf (bk ^^^ bp) 64)).extract (newAhead (bk ^^^ bp)) (newAhead (bk ^^^ bp) + newSize (bk ^^^ bp))))) (by rw [hcut, zoS_append, zoS_append, zoS_append, bits_way2 hway]))
                  have hA : newAhead (bk ^^^ bp) = min (lz (bk ^^^ bp)) 31 := rfl
                  have hb5 : bwI (newAhead (bk ^^^ bp) : Int) 5 = zoS (Pl.bitsOf (newAhead (bk ^^^ bp)) 5) := rfl
                  have hb6 : bwI ((newSize (bk ^^^ bp) - 1 : Nat) : Int) 6 = zoS (Pl.bitsOf (newSize (bk ^^^ bp) - 1) 6) := rfl
                  rw [← hb5, ← hb6] at HV
                  have hl5 : (bwI (newAhead (bk ^^^ bp) : Int) 5).size = 5 := bwI_size _ _
                  have hl6 : (bwI ((newSize (bk ^^^ bp) - 1 : Nat) : Int) 6).size = 6 := bwI_size _ _
                  have CB := hide (bits_two (newAhead (bk ^^^ bp)) (newSize (bk ^^^ bp) - 1) (by omega) (by omega))
                  clear hcut hn hway HN HQ HTB HS4 hb5 hb6
                  generalize bwI (newAhead (bk ^^^ bp) : Int) 5 = s5 at *
                  generalize bwI ((newSize (bk ^^^ bp) - 1 : Nat) : Int) 6 = s6 at *
                  generalize newAhead (bk ^^^ bp) = N at *
                  generalize newSize (bk ^^^ bp) = Z at *
                  generalize lz (bk ^^^ bp) = L at *
                  generalize tz (bk ^^^ bp) = T at *
                  generalize zoS (Pl.bitsOf (bk ^^^ bp) 64) = xs at *
                  have hZ : (64 : Int) - N - T = Z := by omega
                  have hZ0 : 1 ≤ Z := by omega
                  have hN31 : N ≤ 31 := by omega
                  have hNZ : N + Z ≤ 64 := by omega
                  have hT : T ≤ 63 := by omega
                  have hno5 : ¬ 9223372036854775807 < sb.size + st.size + 2 := by omega
                  have hno6 : ¬ 9223372036854775807 < sb.size + st.size + 2 + 5 := by omega
                  have hno6b : ¬ 9223372036854775807 < sb.size + st.size + 2 + s5.size := by omega
                  have hno7 : ¬ 9223372036854775807 < sb.size + st.size + 2 + 5 + 6 := by omega
                  have hno7b : ¬ 9223372036854775807 < sb.size + st.size + 2 + s5.size + s6.size := by omega
                  have hno8 : ¬ 9223372036854775807 < sb.size + st.size + 2 + 5 + 6 + Z := by omega
                  have hno8b : ¬ 9223372036854775807 < sb.size + st.size + 2 + s5.size + s6.size + Z := by omega
                  have HZ := hide hZ
                  have q4 : N ≤ N + Z := by omega
                  have hLN : N = 31 ∧ 31 < L ∨ N = L ∧ L ≤ 31 := by omega
                  have hW : z = 0 ∨ (0 < z ∧ L < a) ∨ (0 < z ∧ a ≤ L ∧ (T : Int) < 64 - a - z) := by omega
                  clear hH hA hnb hZ
                  rcases hLN with ⟨rfl, hL⟩ | ⟨rfl, hL⟩
                  · have hZ : (33 : Int) - T = Z := by have := HZ.out; omega
                    have e1 : IntKind.i64.wrap ((31 : Int) + Z) = (31 : Int) + Z := by rw [IntKind.wrap_i64]; omega
                    have g1 : (31 : Int) ≤ 31 + Z := by omega
                    have g2 : (31 : Int) + Z ≤ 64 := by omega
                    have g3 : ((31 : Int) + Z).toNat = 31 + Z := by omega
                    rcases hW with rfl | ⟨hz, hLa⟩ | ⟨hz, hLa, hTa⟩
                    · go_wp2
                      go_region_held3 (fun _ => True) (exact trivial) (first | (go_at_call 77; refine (CB.out _ _ _ (by intro h; first | omega | (rw [IntKind.wrap_u64]; omega)) (by intro h; first | omega | (simp only [IntKind.wrap_u64, IntKind.wrap_i64]; omega)) (by omega)).mono ?_; first | (have hbx := hb7; clear hbx; rintro e w8 ⟨rfl, hb8⟩) | (rintro e w7 ⟨rfl, hb7⟩)))
                      have hs7 : w.heap.size ≤ w7.heap.size := Nat.le_trans hs5 hb7.size
                      have HB8 := hide (((below_drewN HB5.out _).drew.trans (hb7.mono (by show w.heap.size ≤ w5.heap.size; omega))).trans (hb8.mono (by show w.heap.size ≤ w7.heap.size; omega)))
                      clear hb7 hb8
                      go_wp2
                      go_roundw
                      case rel => exact ⟨k + 1, _, _, tk, bk, dd, 31, Z, by omega, by go_num, rfl, rfl, rfl, by first | rfl | rw [hZ], HB8.out, hdd, by omega, HD.out, by rw [ByteArray.size_append, ByteArray.size_append, ByteArray.size_append, ByteArray.size_append, hel, hl5, hl6]; show _ + 2 + 5 + 6 + _ ≤ _; omega, HR2.out, by rw [ByteArray.append_assoc, ByteArray.append_assoc, ByteArray.append_assoc]; exact HV.out, HE.out⟩
                      case measure => simp [intOf]; omega
                    · go_wp2
                      go_region_held3 (fun _ => True) (exact trivial) (first | (go_at_call 77; refine (CB.out _ _ _ (by intro h; first | omega | (rw [IntKind.wrap_u64]; omega)) (by intro h; first | omega | (simp only [IntKind.wrap_u64, IntKind.wrap_i64]; omega)) (by omega)).mono ?_; first | (have hbx := hb7; clear hbx; rintro e w8 ⟨rfl, hb8⟩) | (rintro e w7 ⟨rfl, hb7⟩)))
                      have hs7 : w.heap.size ≤ w7.heap.size := Nat.le_trans hs5 hb7.size
                      have HB8 := hide (((below_drewN HB5.out _).drew.trans (hb7.mono (by show w.heap.size ≤ w5.heap.size; omega))).trans (hb8.mono (by show w.heap.size ≤ w7.heap.size; omega)))
                      clear hb7 hb8
                      go_wp2
                      go_roundw
                      case rel => exact ⟨k + 1, _, _, tk, bk, dd, 31, Z, by omega, by go_num, rfl, rfl, rfl, by first | rfl | rw [hZ], HB8.out, hdd, by omega, HD.out, by rw [ByteArray.size_append, ByteArray.size_append, ByteArray.size_append, ByteArray.size_append, hel, hl5, hl6]; show _ + 2 + 5 + 6 + _ ≤ _; omega, HR2.out, by rw [ByteArray.append_assoc, ByteArray.append_assoc, ByteArray.append_assoc]; exact HV.out, HE.out⟩
                      case measure => simp [intOf]; omega
                    · go_wp2
                      go_region_held3 (fun _ => True) (exact trivial) (first | (go_at_call 77; refine (CB.out _ _ _ (by intro h; first | omega | (rw [IntKind.wrap_u64]; omega)) (by intro h; first | omega | (simp only [IntKind.wrap_u64, IntKind.wrap_i64]; omega)) (by omega)).mono ?_; first | (have hbx := hb7; clear hbx; rintro e w8 ⟨rfl, hb8⟩) | (rintro e w7 ⟨rfl, hb7⟩)))
                      have hs7 : w.heap.size ≤ w7.heap.size := Nat.le_trans hs5 hb7.size
                      have HB8 := hide (((below_drewN HB5.out _).drew.trans (hb7.mono (by show w.heap.size ≤ w5.heap.size; omega))).trans (hb8.mono (by show w.heap.size ≤ w7.heap.size; omega)))
                      clear hb7 hb8
                      go_wp2
                      go_roundw
                      case rel => exact ⟨k + 1, _, _, tk, bk, dd, 31, Z, by omega, by go_num, rfl, rfl, rfl, by first | rfl | rw [hZ], HB8.out, hdd, by omega, HD.out, by rw [ByteArray.size_append, ByteArray.size_append, ByteArray.size_append, ByteArray.size_append, hel, hl5, hl6]; show _ + 2 + 5 + 6 + _ ≤ _; omega, HR2.out, by rw [ByteArray.append_assoc, ByteArray.append_assoc, ByteArray.append_assoc]; exact HV.out, HE.out⟩
                      case measure => simp [intOf]; omega
                  · have hZ : (64 : Int) - N - T = Z := HZ.out
                    have e1 : IntKind.i64.wrap ((N : Int) + Z) = (N : Int) + Z := by rw [IntKind.wrap_i64]; omega
                    have g1 : (N : Int) ≤ N + Z := by omega
                    have g2 : (N : Int) + Z ≤ 64 := by omega
                    have g3 : ((N : Int) + Z).toNat = N + Z := by omega
                    have g4 : (0 : Int) ≤ (N : Int) := by omega
                    rcases hW with rfl | ⟨hz, hLa⟩ | ⟨hz, hLa, hTa⟩
                    · go_wp2
                      go_region_held3 (fun _ => True) (exact trivial) (first | (go_at_call 77; refine (CB.out _ _ _ (by intro h; first | omega | (rw [IntKind.wrap_u64]; omega)) (by intro h; first | omega | (simp only [IntKind.wrap_u64, IntKind.wrap_i64]; omega)) (by omega)).mono ?_; first | (have hbx := hb7; clear hbx; rintro e w8 ⟨rfl, hb8⟩) | (rintro e w7 ⟨rfl, hb7⟩)))
                      have hs7 : w.heap.size ≤ w7.heap.size := Nat.le_trans hs5 hb7.size
                      have HB8 := hide (((below_drewN HB5.out _).drew.trans (hb7.mono (by show w.heap.size ≤ w5.heap.size; omega))).trans (hb8.mono (by show w.heap.size ≤ w7.heap.size; omega)))
                      clear hb7 hb8
                      go_wp2
                      go_roundw
                      case rel => exact ⟨k + 1, _, _, tk, bk, dd, N, Z, by omega, by go_num, rfl, rfl, rfl, by first | rfl | rw [hZ], HB8.out, hdd, by omega, HD.out, by rw [ByteArray.size_append, ByteArray.size_append, ByteArray.size_append, ByteArray.size_append, hel, hl5, hl6]; show _ + 2 + 5 + 6 + _ ≤ _; omega, HR2.out, by rw [ByteArray.append_assoc, ByteArray.append_assoc, ByteArray.append_assoc]; exact HV.out, HE.out⟩
                      case measure => simp [intOf]; omega
                    · go_wp2
                      go_region_held3 (fun _ => True) (exact trivial) (first | (go_at_call 77; refine (CB.out _ _ _ (by intro h; first | omega | (rw [IntKind.wrap_u64]; omega)) (by intro h; first | omega | (simp only [IntKind.wrap_u64, IntKind.wrap_i64]; omega)) (by omega)).mono ?_; first | (have hbx := hb7; clear hbx; rintro e w8 ⟨rfl, hb8⟩) | (rintro e w7 ⟨rfl, hb7⟩)))
                      have hs7 : w.heap.size ≤ w7.heap.size := Nat.le_trans hs5 hb7.size
                      have HB8 := hide (((below_drewN HB5.out _).drew.trans (hb7.mono (by show w.heap.size ≤ w5.heap.size; omega))).trans (hb8.mono (by show w.heap.size ≤ w7.heap.size; omega)))
                      clear hb7 hb8
                      go_wp2
                      go_roundw
                      case rel => exact ⟨k + 1, _, _, tk, bk, dd, N, Z, by omega, by go_num, rfl, rfl, rfl, by first | rfl | rw [hZ], HB8.out, hdd, by omega, HD.out, by rw [ByteArray.size_append, ByteArray.size_append, ByteArray.size_append, ByteArray.size_append, hel, hl5, hl6]; show _ + 2 + 5 + 6 + _ ≤ _; omega, HR2.out, by rw [ByteArray.append_assoc, ByteArray.append_assoc, ByteArray.append_assoc]; exact HV.out, HE.out⟩
                      case measure => simp [intOf]; omega
                    · go_wp2
                      go_region_held3 (fun _ => True) (exact trivial) (first | (go_at_call 77; refine (CB.out _ _ _ (by intro h; first | omega | (rw [IntKind.wrap_u64]; omega)) (by intro h; first | omega | (simp only [IntKind.wrap_u64, IntKind.wrap_i64]; omega)) (by omega)).mono ?_; first | (have hbx := hb7; clear hbx; rintro e w8 ⟨rfl, hb8⟩) | (rintro e w7 ⟨rfl, hb7⟩)))
                      have hs7 : w.heap.size ≤ w7.heap.size := Nat.le_trans hs5 hb7.size
                      have HB8 := hide (((below_drewN HB5.out _).drew.trans (hb7.mono (by show w.heap.size ≤ w5.heap.size; omega))).trans (hb8.mono (by show w.heap.size ≤ w7.heap.size; omega)))
                      clear hb7 hb8
                      go_wp2
                      go_roundw
                      case rel => exact ⟨k + 1, _, _, tk, bk, dd, N, Z, by omega, by go_num, rfl, rfl, rfl, by first | rfl | rw [hZ], HB8.out, hdd, by omega, HD.out, by rw [ByteArray.size_append, ByteArray.size_append, ByteArray.size_append, ByteArray.size_append, hel, hl5, hl6]; show _ + 2 + 5 + 6 + _ ≤ _; omega, HR2.out, by rw [ByteArray.append_assoc, ByteArray.append_assoc, ByteArray.append_assoc]; exact HV.out, HE.out⟩
                      case measure => simp [intOf]; omega
        · have HS2 : Hid (sb = zoS (chunkBits ((ti, bi) :: r))) := by
            show _ = _
            have h := HG.out
            rw [List.drop_eq_nil_of_le (by omega), goBits, List.append_nil] at h
            rw [HS.out, h]; rfl
          have HBl := hide hBl
          clear HG HS HP hBl
          go_wp2
          go_ret
          exact ⟨by rw [HS2.out]; rfl, HBl.out⟩
end Go.Proofs.YtamcclcbmenjdaaGreatDoor

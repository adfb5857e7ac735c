/- payloadSize, open. -/
import Derived.Test.YtcidgfdiacehmaaDoorUnPay
import Derived.Test.YtcidgfdiacehmaaDoorInvNum
namespace Go.Proofs.YtcidgfdiacehmaaDoor
open Go.RowKit Go.Lib

theorem or_byte (V b : Nat) (hV : V < 16777216) (hb : b < 256) : Go.bits .or .i64 ((V : Int) * 256) (b : Int) = ((256 * V + b : Nat) : Int) := by
  have h := bits_join .i64 63 (by decide) Pl.wraps_i64 8 ((V : Int) * 256) b (by omega) (by omega) (by omega) (by omega) (by omega) (by omega)
  rw [h]; omega

set_option maxRecDepth 100000 in
set_option maxHeartbeats 400000 in
theorem payloadSize_any (s : ByteArray) (w : World) (h7 : 7 ≤ s.size) :
    Calls Tryd.prog 56 #[.string s] w fun e w' => e = .returned (.int .i64 (pszTo s.data.toList 4 : Nat)) ∧ w' = w := by
  go_enter Tryd.func56, Tryd.ntmps56
  go_wp2
  go_loop [3, 4] (fun n i => ∃ k : Nat, k ≤ 4 ∧ i = .int .i64 (3 + k : Nat) ∧ n = .int .i64 (pszTo s.data.toList k : Nat)) (fun _ i => 7 - (intOf i).toNat)
  case atStart => exact ⟨0, by omega, rfl, rfl⟩
  case round =>
    obtain ⟨k, hk, rfl, rfl⟩ := hrel
    by_cases hlt : k < 4
    · have hi : 3 + k < s.size := by omega
      have hV : pszTo s.data.toList k < 16777216 := Nat.lt_of_lt_of_le (pszTo_lt _ k) (Nat.pow_le_pow_right (by decide) (by omega : k ≤ 3))
      have hor := or_byte (pszTo s.data.toList k) s[3 + k].toNat hV s[3 + k].toNat_lt
      have hw1 : IntKind.i64.wrap ((pszTo s.data.toList k : Int) * 256) = (pszTo s.data.toList k : Int) * 256 := by rw [IntKind.wrap_i64]; omega
      have HN : Hid (pszTo s.data.toList (k + 1) = 256 * pszTo s.data.toList k + s[3 + k].toNat) := by
        show _ = _
        rw [pszTo, getD_byte s (3 + k) hi]
      have hwb := wrap64_nat s[3 + k].toNat (by have := s[3 + k].toNat_lt; omega)
      have HW := hide hwb
      clear hwb
      go_wp2
      go_round
      case rel => exact ⟨k + 1, by omega, val_int (by omega), val_int (by rw [HN.out, ← hor, HW.out])⟩
      case measure => simp [intOf]; omega
    · have hke : k = 4 := by omega
      subst hke
      go_wp2
      go_ret
      exact ⟨rfl, rfl⟩

/-- Bytes of a text. -/
theorem ext_list (s : ByteArray) (a b : Nat) : (s.extract a b).data.toList = (s.data.toList.take b).drop a := by
  rw [ByteArray.data_extract, Array.toList_extract, List.extract_eq_take_drop, List.drop_take]

set_option maxRecDepth 100000 in
set_option maxHeartbeats 400000 in
theorem open_any (s : ByteArray) (w : World) (hs : s.size ≤ 140737488355328) :
    Calls Tryd.prog 41 #[.string s] w fun e w' => ((Opens s.data.toList ∧ e = .returned (.tuple #[.string (BA (inner s.data.toList)), .bool true])) ∨ (¬ Opens s.data.toList ∧ e = .returned (.tuple #[.string ⟨#[]⟩, .bool false]))) ∧ Below w.heap.size w w' := by
  have hl : s.data.toList.length = s.size := by simp
  by_cases h11 : s.size < 11
  · have hno : ¬ Opens s.data.toList := fun h => by have := h.long; omega
    have HNo := hide hno
    have hlt : (s.size : Int) - 4 < 7 := by omega
    clear hno
    go_enter Tryd.func41, Tryd.ntmps41
    go_wp2
    go_ret2
    exact ⟨.inr ⟨HNo.out, rfl⟩, Below.refl _ _⟩
  · obtain ⟨E, hE⟩ : ∃ E, s.size = E + 4 := ⟨s.size - 4, by omega⟩
    have hEi : (s.size : Int) - 4 = (E : Int) := by omega
    have hge : ¬ ((E : Int) < 7) := by omega
    have hged : decide ((E : Int) < 7) = false := decide_eq_false hge
    have hE2 : (E : Int) ≤ (s.size : Int) := by omega
    have hE7 : 7 ≤ E := by omega
    have HE := hide hE
    have hmk : ((s.extract 0 3).toList = [67, 72, 1]) ↔ s.data.toList.take 3 = [67, 72, 1] := by
      rw [ByteArray.toList_eq, ext_list]; simp
    clear hE
    go_enter Tryd.func41, Tryd.ntmps41
    by_cases hm : (s.extract 0 3).toList = [67, 72, 1]
    · have C1 := hide (payloadSize_any s w (by have := HE.out; omega))
      have hpl := pszTo_lt s.data.toList 4
      have HM := hide (hmk.1 hm)
      by_cases hz : pszTo s.data.toList 4 = s.size - 11
      · have HZ := hide hz
        have hzb : (((pszTo s.data.toList 4 : Nat) : Int) != (E : Int) - 7) = false := by have := HE.out; simp; omega
        clear hz hmk
        go_wp2_with fail
        refine C1.out.mono ?_
        rintro e w1 ⟨rfl, rfl⟩
        have CS := hide (sumBytes_any (s.extract 0 E) w1.drew (by simp; unfold maxLen; omega))
        clear C1
        go_wp2
        have hE3 : (E : Int).toNat = E := rfl
        as_aux_lemma =>
          go_region_with (first | (go_at_call 32; refine CS.out.mono ?_; rintro r w2 ⟨sv, rfl, hsb, hb2⟩; have hcv := run_string_of hsb (by simp [le32])))
          all_goals
            have hsz2 := hb2.size
            have HB2 : Hid (Below w1.heap.size w1 w2) := ((Below.refl w1.heap.size w1).drew).trans hb2
            have e4 : (s.extract E s.size).toList = s.data.toList.drop (s.data.toList.length - 4) := by
              rw [ByteArray.toList_eq, ext_list, show s.data.toList.length - 4 = E by have := HE.out; omega, List.take_of_length_le (by omega)]
            have eE : s.data.toList.length - 4 = E := by have := HE.out; omega
            by_cases hc : (s.extract E s.size).toList = le32 (Pl.crc (s.data.toList.take E))
            · have hcb : (!((s.extract E s.size).toList == le32 (Pl.crc (s.data.toList.take E)))) = false := by simpa using hc
              have HO : Hid (Opens s.data.toList) := ⟨by have := HE.out; omega, HM.out, by rw [hl]; exact HZ.out, by rw [← e4, eE]; exact hc⟩
              clear hc hcv hsb hb2 CS e4
              go_wp2
              · rename_i hx; rw [hcb] at hx; cases hx
              go_ret2
              have e7 : s.extract 7 E = BA (inner s.data.toList) := by
                rw [← BA_of (s.extract 7 E), ext_list, inner, eE]
              exact ⟨.inl ⟨HO.out, by rw [← e7]; rfl⟩, HB2.out⟩
            · have hcb : (!((s.extract E s.size).toList == le32 (Pl.crc (s.data.toList.take E)))) = true := by simpa using hc
              have HNo : Hid (¬ Opens s.data.toList) := fun h => hc (by have := h.sum; rw [e4, this, eE])
              clear hc hcv hsb hb2 CS e4 eE
              go_wp2
              · go_ret2
                exact ⟨.inr ⟨HNo.out, rfl⟩, HB2.out⟩
              · rename_i hx; rw [hcb] at hx; cases hx
      · have hzb : (((pszTo s.data.toList 4 : Nat) : Int) != (E : Int) - 7) = true := by have := HE.out; simp; omega
        have HNo : Hid (¬ Opens s.data.toList) := fun h => hz (by have := h.size; omega)
        clear hz hmk
        go_wp2_with fail
        refine C1.out.mono ?_
        rintro e w1 ⟨rfl, rfl⟩
        clear C1
        go_wp2
        go_ret2
        exact ⟨.inr ⟨HNo.out, rfl⟩, Below.refl _ _⟩
    · have HNo : Hid (¬ Opens s.data.toList) := fun h => hm (hmk.2 h.mark)
      clear hmk
      go_wp2
      go_ret2
      exact ⟨.inr ⟨HNo.out, rfl⟩, Below.refl _ _⟩
end Go.Proofs.YtcidgfdiacehmaaDoor

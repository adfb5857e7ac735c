/- 'choirkeep.Round', where what it reads is of bulk at most 1048576: what is packed is read again, just so; cut, longer, or behind another one it is no frame. The second form's statement and its card. -/
import Derived.Test.YtcidgfdiacehmaaDoorOuter
import Derived.Test.YtcidgfdiacehmaaDoorSame
import Derived.Test.YtcidgfdiacehmaaDoorInvPay
import Derived.Test.YtcidgfdiacehmaaDoorCards
import Derived.Test.YtcidgfdiacehmaaDoorTie
import Derived.WalkKit
import Derived.ProofKit
import Derived.Deep.DeepHandedRow
namespace Go.Proofs.YtcidgfdiacehmaaDoor
open Go.RowKit Go.Lib Go.ChangeShapes Go.WideShapes Go.ChangeAt
open Go.ChangeMaps (open_string shut_string)

theorem pszTo_congr (l m : List UInt8) (h : ∀ i, 3 ≤ i → i < 7 → l.getD i 0 = m.getD i 0) : pszTo l 4 = pszTo m 4 := by
  simp only [pszTo]
  rw [h (3 + 0) (by omega) (by omega), h (3 + 1) (by omega) (by omega), h (3 + 2) (by omega) (by omega), h (3 + 3) (by omega) (by omega)]
theorem not_cut {s : List UInt8} (h : Opens s) {k : Nat} (hk : k < s.length) : ¬ IsFrame (s.take k) := fun hf => by
  have h1 := hf.opens.long
  have h2 := hf.opens.size
  have h3 := h.size
  have h4 := h.long
  rw [List.length_take] at h1 h2
  have e : pszTo (s.take k) 4 = pszTo s 4 := pszTo_congr _ _ fun i _ hi => by
    simp only [List.getD_eq_getElem?_getD]
    rw [List.getElem?_take, if_pos (by omega)]
  omega
theorem not_longer {s t : List UInt8} (h : Opens s) (ht : 0 < t.length) : ¬ IsFrame (s ++ t) := fun hf => by
  have h2 := hf.opens.size
  have h3 := h.size
  have h4 := h.long
  rw [List.length_append] at h2
  have e : pszTo (s ++ t) 4 = pszTo s 4 := pszTo_congr _ _ fun i _ hi => by
    simp only [List.getD_eq_getElem?_getD]
    rw [List.getElem?_append_left (by omega)]
  omega

set_option maxRecDepth 100000 in
set_option maxHeartbeats 400000 in
theorem round_any (v : Value) (raws : List (Int × Int × Nat)) (cut : Int) (tail : ByteArray) (w : World) (hR : RawsAt w w.heap.size v raws) (hl : raws.length ≤ 100000000000000) (hc1 : -9223372036854775808 ≤ cut) (hc2 : cut ≤ 9223372036854775807) (ht : tail.size ≤ 100000000) (hT : Tabs w) :
    Calls Tryd.prog 4 #[v, .int .i64 cut, .string tail] w fun e w' => e = .returned (.bool true) ∧ Below w.heap.size w w' := by
  have h3 := hT.lt
  have C1 := hide (kbatch_any w.heap.size v raws w hR (Nat.le_refl _) hl)
  have HT := hide hT
  obtain ⟨ra, rc, rfl, _⟩ := id hR
  clear hR hT
  go_enter Tryd.func4, Tryd.ntmps4
  go_wp2_with fail
  refine C1.out.mono ?_
  rintro e w1 ⟨v1, bs, rfl, hB1, hok, hlim, hrg, hb1⟩
  have hT1 := HT.out.below hb1 h3
  have C2 := hide (packed_any w1.heap.size v1 bs w1 hB1 (Nat.le_refl _) hT1 hok hlim)
  have hfr := frame_is bs hok hlim hrg
  have hpl := payload_bounds (fits_of hok hlim)
  have hfl := frameOf_length (payload bs)
  have HSm := hide (small_of hlim)
  have HB1 := hide hb1
  have HT1 := hide hT1
  have HA1 := hide hB1
  have HRg := hide hrg
  have hs1 := hb1.size
  obtain ⟨va, vc, rfl, _⟩ := id hB1
  have HFr := hide hfr
  generalize frameOf (payload bs) = fr at *
  have hlo : 12 ≤ (BA fr).size := by rw [BA_size]; omega
  have hhi : (BA fr).size ≤ 60011 := by rw [BA_size]; omega
  have HL : Hid ((BA fr).data.toList = fr) := BA_list fr
  have HN : Hid ((BA fr).size = fr.length) := BA_size fr
  generalize BA fr = S at *
  clear hB1 hb1 hT1 C1 hok hlim hrg hfr hfl hpl
  go_wp2_with fail
  refine C2.out.mono ?_
  rintro e w2 ⟨rfl, hb2⟩
  have hT2 := HT1.out.below hb2 (by omega)
  have hs2 := hb2.size
  have HB2 := hide (HB1.out.trans (hb2.mono hs1))
  have HT2 := hide hT2
  have C3 := hide (decode_any S w2 (by omega) hT2)
  have HA2 := hide (HA1.out.kept (w' := w2) fun k hk => hb2.block k hk)
  clear hb2 hT2 C2 HT1 HA1
  go_wp2_with fail
  refine C3.out.mono ?_
  rintro e w3 ⟨hcase, hb3⟩
  rcases Or.symm hcase with ⟨hno, _⟩ | ⟨_, v3, rfl, hf3⟩
  · rw [HL.out] at hno; exact absurd HFr.out.1 hno
  rw [HL.out, HFr.out.2] at hf3
  have hT3 := HT2.out.below hb3 (by omega)
  have hs3 := hb3.size
  have HB3 := hide (HB2.out.trans (hb3.mono (by omega)))
  have hBA3 := hf3.batchAt HRg.out
  have hA3 : BatchAt w3 w3.heap.size (.slice va bs.length vc) bs := by
    obtain ⟨a, c, e, hc, h2⟩ := HA2.out.kept (w' := w3) fun k hk => hb3.block k (by omega)
    refine ⟨a, c, e, hc, ?_⟩
    rcases h2 with h2 | ⟨b, o, ha, hb, hcell⟩
    · exact .inl h2
    · refine .inr ⟨b, o, ha, by omega, fun i x hx => ?_⟩
      obtain ⟨lv, sv, q1, q2, q3, q4⟩ := hcell i x hx
      exact ⟨lv, sv, q1, q2, labs_kept q3 (fun _ _ => rfl) (by omega), sams_kept q4 (fun _ _ => rfl) (by omega)⟩
  obtain ⟨da, dc, rfl, _⟩ := id hBA3
  have C4 := hide (same_any _ _ bs w3 hA3 hBA3 HSm.out)
  have HT3 := hide hT3
  clear hf3 hb3 hT3 hBA3 hA3 C3 HA2
  go_wp2_with fail
  refine C4.out.mono ?_
  rintro e w4 ⟨rfl, hb4⟩
  have hT4 := HT3.out.below hb4 (by omega)
  have hs4 := hb4.size
  have HB4 := hide (HB3.out.trans (hb4.mono (by omega)))
  have HT4 := hide hT4
  have C5 := hide (pick_any cut S.size w4 hc1 hc2 (by omega) (by omega))
  have hpk := pk_lt cut S.size (by omega)
  generalize pk cut S.size = k at *
  clear hb4 hT4 C4 HT3
  go_wp2_with fail
  refine C5.out.mono ?_
  rintro e w5 ⟨rfl, rfl⟩
  clear C5
  have C6 := hide (decode_any (S.extract 0 k) w5 (by simp; omega) HT4.out)
  have hcut : ¬ IsFrame (S.extract 0 k).data.toList := by
    rw [ext_list, HL.out]; exact not_cut HFr.out.1.opens (by rw [← HN.out]; exact hpk)
  have hk1 : (k : Int) ≤ (S.size : Int) := by omega
  go_wp2_with fail
  refine C6.out.mono ?_
  rintro e w6 ⟨⟨hyes, _⟩ | ⟨_, rfl⟩, hb6⟩
  · exact absurd hyes hcut
  have hT6 := HT4.out.below hb6 (by omega)
  have hs6 := hb6.size
  have HB6 := hide (HB4.out.trans (hb6.mono (by omega)))
  have HT6 := hide hT6
  clear hb6 hT6 C6 hcut
  go_wp2_with fail
  have C7 := hide (decode_any (S ++ tail) w6 (by rw [ByteArray.size_append]; omega) HT6.out)
  have happ : (S ++ tail).data.toList = fr ++ tail.data.toList := by rw [ByteArray.data_append, Array.toList_append, HL.out]
  have hlong : ¬ tail.size = 0 → ¬ IsFrame (S ++ tail).data.toList := fun h => by
    rw [happ]; exact not_longer HFr.out.1.opens (by simp; omega)
  have HLong := hide hlong
  have C8 := hide (fun (W : World) (hT : Tabs W) => decode_any (S ++ S) W (by rw [ByteArray.size_append]; omega) hT)
  have htwo : ¬ IsFrame (S ++ S).data.toList := by
    rw [ByteArray.data_append, Array.toList_append, HL.out]; exact not_longer HFr.out.1.opens (by rw [← HN.out]; omega)
  have HTwo := hide htwo
  clear happ hlong htwo
  refine C7.out.mono ?_
  rintro e w7 ⟨h7, hb7⟩
  have hT7 := HT6.out.below hb7 (by omega)
  have hs7 := hb7.size
  have HB7 := hide (HB6.out.trans (hb7.mono (by omega)))
  have HT7 := hide hT7
  clear hb7 hT7 C7
  by_cases ht0 : tail.size = 0
  · have hte : tail.toList.isEmpty = true := by rw [ByteArray.toList_eq]; simp; exact Array.eq_empty_of_size_eq_zero ht0
    obtain ⟨gv, gn, rfl⟩ : ∃ gv gn, e = .returned (.tuple #[gv, .int .i64 gn]) := by
      rcases h7 with ⟨_, v, rfl, _⟩ | ⟨_, rfl⟩ <;> exact ⟨_, _, rfl⟩
    clear h7 HLong
    go_wp2_with fail
    refine (C8.out w7 HT7.out).mono ?_
    rintro e w8 ⟨⟨hyes, _⟩ | ⟨_, rfl⟩, hb8⟩
    · exact absurd hyes HTwo.out
    have HB8 := hide (HB7.out.trans (hb8.mono (by omega)))
    clear hb8 C8
    go_wp2
    go_ret
    exact ⟨rfl, HB8.out⟩
  · have hte : tail.toList.isEmpty = false := by rw [ByteArray.toList_eq]; simp; exact fun h => ht0 (by show tail.data.size = 0; rw [h]; rfl)
    rcases h7 with ⟨hyes, _⟩ | ⟨_, rfl⟩
    · exact absurd hyes (HLong.out ht0)
    go_wp2_with fail
    refine (C8.out w7 HT7.out).mono ?_
    rintro e w8 ⟨⟨hyes, _⟩ | ⟨_, rfl⟩, hb8⟩
    · exact absurd hyes HTwo.out
    have HB8 := hide (HB7.out.trans (hb8.mono (by omega)))
    clear hb8 C8
    go_wp2
    go_ret
    exact ⟨rfl, HB8.out⟩

set_option maxRecDepth 100000 in
/-- What the walk gives, for every argument that is not too great. -/
theorem round_contract (H : Type) (enc : TypeId × Value → H) (W : World) (base : Nat) (args : Array Value) (ds gs : List (DataW H)) (before : List MemPlace)
    (hval : ∀ (j : Nat) t v, Tryd.f4.params[j]? = some t → args[j]? = some v → Value.okWide Tryd.prog W .any base t v)
    (hW : DataW.Whole enc Tryd.prog Tryd.f4.params.toList Rows.roundSpec.vars false W args.toList ds gs before)
    (hcond : Rows.uptoSmall H (ds ++ gs) = true) (hz : (DataW.weightsEach Tryd.prog (Tryd.f4.params.toList ++ []) (ds ++ gs)).all (· ≤ reachBytes) = true) (hL : laidMetH Tryd.prog Rows.oneRow.laid W) :
    Calls Tryd.prog 4 args W fun e W' => ∃ v, e = .returned v ∧ Rows.roundSpec.post enc Tryd.prog Tryd.f4 false true false false W args v W' := by
  have hW' := hW
  obtain ⟨p, q, hA0, hV, rfl, hfz, hnd⟩ := hW
  have hA : DataW.TrodAll enc Tryd.prog W 0 (fun _ => true) true Tryd.f4.params.toList args.toList ds p := hA0
  rw [Tryd.params4] at hA hval hz
  obtain ⟨v0, vs0, d0, ds0, p0, q0, hargs, rfl, rfl, h0, r0⟩ := trodAll_cons hA
  obtain ⟨v1, vs1, d1, ds1, p1, q1, rfl, rfl, rfl, h1, r1⟩ := trodAll_cons r0
  obtain ⟨v2, vs2, d2, ds2, p2, q2, rfl, rfl, rfl, h2, r2⟩ := trodAll_cons r1
  obtain ⟨rfl, rfl, rfl⟩ := trodAll_nil r2
  obtain rfl : args = #[v0, v1, v2] := by cases args; simp_all
  obtain ⟨rfl, rfl⟩ := trodVars_none hV
  obtain ⟨a0, len, cap, rfl⟩ := okWide_slice Tryd.underlying30 (hval 0 30 v0 rfl rfl)
  obtain ⟨cut, rfl, rfl, rfl, wc⟩ := open_int Tryd.underlying3 (hval 1 3 v1 rfl rfl) h1
  obtain ⟨s, rfl, rfl, rfl, ws⟩ := open_string Tryd.underlying9 (hval 2 9 v2 rfl rfl) h2
  obtain ⟨raws, hR, hlen⟩ := raws_of h0
  have hbc := wf_i64 wc
  have hss : s.size ≤ 100000000 := by
    have e : s.data.toList.length = s.size := by simp
    simp only [Rows.uptoSmall, List.append_nil, Rows.uptoBulkAll, Rows.uptoBulk, decide_eq_true_eq] at hcond
    omega
  have hll : raws.length ≤ 100000000000000 := by
    rcases hlen with ⟨_, h⟩ | ⟨elems, spare, rfl, h⟩
    · omega
    · have h2 := sized_slice hz (j := 0) (t := 30) rfl rfl Tryd.underlying30
      rw [Tryd.bytesRaw] at h2
      have := reachBytes_lt
      omega
  have hlt : ∀ x ∈ p0, x.block < W.heap.size := fun x hx => hW'.lt x (by simp [hx])
  refine (round_any _ raws cut s W hR hll hbc.1 hbc.2 hss (tabs_of hL)).mono fun e W' ⟨he, hB⟩ => ?_
  subst he
  refine ⟨_, rfl, _, _, _, [], p0 ++ ([] ++ []), [], hW', ?_, ?_, ?_, hB.frame _, fun h => by cases h⟩
  · exact trodAll_mk1 (shut_bool Tryd.underlying4 true)
  · rw [Tryd.params4]
    exact trodAll_mk3 (Below.trod Tryd.laidOut Tryd.rawReads Tryd.rawType h0 hB hlt) (shut_int Tryd.underlying3 wc) (shut_string Tryd.underlying9 ws)
  · exact rfl
theorem round_laid (os : Os) : laidMet Tryd.prog Rows.roundUptoRow.laid (({ World.holding Tryd.prog os ⟨#[], #[], []⟩ with heap := layTabs (World.holding Tryd.prog os ⟨#[], #[], []⟩).heap } : World).forCall (fun _ _ => 0) ⟨#[], #[.slice none 0 0, .int .i64 0, .string ⟨#[]⟩], []⟩).memory :=
  laidMet_of_run' 8 (by kernel_rfl) (by kernel_rfl)
theorem round_reads (os : Os) {H : Type} (enc : TypeId × Value → H) : ∃ places, DataW.whole enc Tryd.prog (({ World.holding Tryd.prog os ⟨#[], #[], []⟩ with heap := layTabs (World.holding Tryd.prog os ⟨#[], #[], []⟩).heap } : World).forCall (fun _ _ => 0) ⟨#[], #[.slice none 0 0, .int .i64 0, .string ⟨#[]⟩], []⟩).memory Tryd.f4.params.toList Rows.roundSpec.vars false (#[.slice none 0 0, .int .i64 0, .string ⟨#[]⟩] : Array Value).toList 8 = some ([.nil, .lit (.int .i64 0), .lit (.string [])], [], places) :=
  ⟨[], by kernel_rfl⟩

set_option maxRecDepth 100000 in
theorem round_lifted (os : Os) (started : os.Started) (H : Type) (enc : TypeId × Value → H) (F : Stop.Interp) :
    ReturnsInHanded {} Tryd.checked os 4 .any ((Rows.OpenSpec.upto Rows.roundSpec).preRow enc Tryd.prog Tryd.f4 Rows.roundUptoRow.domain false Rows.roundUptoRow.laid) (((Rows.OpenSpec.upto Rows.roundSpec).at F).post enc Tryd.prog Tryd.f4 false true false false) := by
  obtain ⟨places, hx⟩ := round_reads os enc
  refine returnsInHanded_of_row (C := Tryd.checked) (s := Rows.OpenSpec.upto Rows.roundSpec) Tryd.own started (by kernel_rfl) Tryd.func4
    (witness_row_at (enc := enc) (C := Tryd.checked) false { World.holding Tryd.prog os ⟨#[], #[], []⟩ with heap := layTabs (World.holding Tryd.prog os ⟨#[], #[], []⟩).heap } #[.slice none 0 0, .int .i64 0, .string ⟨#[]⟩] rfl (by kernel_rfl) (by kernel_rfl) (by kernel_rfl)
      (OpenSpec.preRow_of_cond 8 hx (by kernel_rfl) (fun k hk => by cases hk; kernel_rfl) (by kernel_rfl) (round_laid os))) ?_
  intro W base args ds gs before hval hW _ hcond hz hL _ _
  exact round_contract H enc W base args ds gs before hval hW (hcond _ rfl) hz hL

theorem round_said : Rows.RoundUptoSaid :=
  OpenClaim.holds_of_cond 4 Tryd.f4 rfl rfl rfl rfl rfl rfl rfl ⟨rfl, rfl, rfl, rfl, rfl⟩ rfl rfl rfl rfl rfl (by kernel_rfl) Tryd.func4 (by kernel_rfl)
    (of_decide_eq_true (by kernel_rfl)) (by unfold Func.isWrapper; first | (rw [if_pos (by decide +kernel)]; kernel_rfl) | (rw [if_neg (by decide +kernel)]; exact ⟨rfl, rfl⟩))
    (fun os started H enc _ F => by rw [OpenClaim.pre_eq_preRow]; exact round_lifted os started H enc F)
theorem round_plain (f : FuncId) (fn : Func) (hf : Tryd.pinned.checked.prog.funcNamed Rows.roundUptoRow.func = some f) (hfn : Tryd.pinned.checked.prog.funcs[f]? = some fn) :
    false = Tryd.pinned.checked.prog.looks [] ∧ ∀ (j : Nat) t, fn.params[j]? = some t → Tryd.pinned.checked.prog.wantsStandIn t = false := by
  obtain rfl : f = 4 := Option.some.inj ((show Tryd.prog.funcNamed Rows.roundUptoRow.func = some 4 by kernel_rfl).symm.trans hf) |>.symm
  obtain rfl : fn = Tryd.f4 := (Option.some.inj (Tryd.func4.symm.trans hfn)).symm
  refine ⟨by kernel_rfl, fun j t ht => ?_⟩
  rw [Tryd.params4] at ht
  have hm := Array.mem_of_getElem? ht
  simp at hm
  rcases hm with rfl | rfl | rfl
  · exact (show Tryd.prog.wantsStandIn 30 = false by kernel_rfl)
  · exact (show Tryd.prog.wantsStandIn 3 = false by kernel_rfl)
  · exact (show Tryd.prog.wantsStandIn 9 = false by kernel_rfl)
/-- The card. -/
theorem round_card : Rows.RoundUptoCardSaid :=
  Claim7.holds_tied_plain_at .later [] _ _ _ _ round_said (fun _ h => by cases h) (by kernel_rfl) (fun _ h => by cases h) roundUpto_row_tie rfl ⟨rfl, rfl⟩ (by kernel_rfl) rfl round_plain (by kernel_rfl)
end Go.Proofs.YtcidgfdiacehmaaDoor

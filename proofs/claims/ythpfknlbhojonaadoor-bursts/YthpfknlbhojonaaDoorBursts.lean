/- 'choirkeep.Bursts', for every list of raw samples and every two numbers: a frame of which bits are turned within 32 that follow one another is none. The first form's statement and its card: no condition beside the row's own. -/
import Derived.Test.YthpfknlbhojonaaDoorOuter
import Derived.Test.YthpfknlbhojonaaDoorTurned
import Derived.Test.YthpfknlbhojonaaDoorInvPay
import Derived.Test.YthpfknlbhojonaaDoorCards
import Derived.Test.YthpfknlbhojonaaDoorTie
import Derived.WalkKit
import Derived.ProofKit
import Derived.Deep.DeepHandedRow
namespace Go.Proofs.YthpfknlbhojonaaDoor
open Go.RowKit Go.Lib Go.ChangeShapes Go.WideShapes Go.ChangeAt

set_option maxRecDepth 100000 in
set_option maxHeartbeats 400000 in
theorem bursts_any (v : Value) (raws : List (Int × Int × Nat)) (at' mask : Int) (w : World) (hR : RawsAt w w.heap.size v raws) (hl : raws.length ≤ 100000000000000) (hc1 : -9223372036854775808 ≤ at') (hc2 : at' ≤ 9223372036854775807) (hT : Tabs w) :
    Calls Tryd.prog 6 #[v, .int .i64 at', .int .i64 mask] w fun e w' => e = .returned (.bool true) ∧ Below w.heap.size w w' := by
  have h3 := hT.lt
  have C1 := hide (kbatch_any w.heap.size v raws w hR (Nat.le_refl _) hl)
  have HT := hide hT
  obtain ⟨ra, rc, rfl, _⟩ := id hR
  clear hR hT
  go_enter Tryd.func6, Tryd.ntmps6
  go_wp2_with fail
  refine C1.out.mono ?_
  rintro e w1 ⟨v1, bs, rfl, hB1, hok, hlim, hrg, hb1⟩
  have hT1 := HT.out.below hb1 h3
  have C2 := hide (packed_any w1.heap.size v1 bs w1 hB1 (Nat.le_refl _) hT1 hok hlim)
  have hfr := frame_is bs hok hlim hrg
  have hpl := payload_bounds (fits_of hok hlim)
  have hfl := frameOf_length (payload bs)
  have HB1 := hide hb1
  have HT1 := hide hT1
  have hs1 := hb1.size
  obtain ⟨va, vc, rfl, _⟩ := id hB1
  have HFr := hide hfr
  generalize frameOf (payload bs) = fr at *
  have hlo : 12 ≤ (BA fr).size := by rw [BA_size]; omega
  have hhi : (BA fr).size ≤ 60011 := by rw [BA_size]; omega
  have HL : Hid ((BA fr).data.toList = fr) := BA_list fr
  generalize BA fr = S at *
  clear hB1 hb1 hT1 C1 hok hlim hrg hfr hfl hpl
  go_wp2_with fail
  refine C2.out.mono ?_
  rintro e w2 ⟨rfl, hb2⟩
  have hT2 := HT1.out.below hb2 (by omega)
  have hs2 := hb2.size
  have HB2 := hide (HB1.out.trans (hb2.mono hs1))
  have HT2 := hide hT2
  have C3 := pick_any at' (8 * S.size) w2 hc1 hc2 (by omega) (by omega)
  have e8 : ((8 * S.size : Nat) : Int) = 8 * (S.size : Int) := by omega
  rw [e8] at C3
  have HC3 := hide C3
  have hpk := pk_lt at' (8 * S.size) (by omega)
  generalize pk at' (8 * S.size) = a at *
  clear hb2 hT2 C2 C3 e8 HT1
  go_wp2_with fail
  refine HC3.out.mono ?_
  rintro e w3 ⟨rfl, rfl⟩
  have C4 := hide (turned_any S a mask w3 (by omega) (by omega))
  have hcase : turnTo S.data.toList a (mbit mask) 32 = fr ∨ ¬ IsFrame (turnTo S.data.toList a (mbit mask) 32) := by
    by_cases hf : IsFrame (turnTo S.data.toList a (mbit mask) 32)
    · rw [HL.out] at hf ⊢
      exact .inl (burst_tells fr a (mbit mask) HFr.out.1.opens hf.opens)
    · exact .inr hf
  have htl : (turnTo S.data.toList a (mbit mask) 32).length = S.size := by rw [turnTo_length]; simp
  generalize turnTo S.data.toList a (mbit mask) 32 = T at *
  clear HC3
  go_wp2_with fail
  refine C4.out.mono ?_
  rintro e w4 ⟨rfl, hb4⟩
  have hT4 := HT2.out.below hb4 (by omega)
  have hs4 := hb4.size
  have HB4 := hide (HB2.out.trans (hb4.mono (by omega)))
  have C5 := hide (decode_any (BA T) w4 (by rw [BA_size]; omega) hT4)
  have HTL : Hid ((BA T).data.toList = T) := BA_list T
  have eT : (BA T).toList = T := by rw [ByteArray.toList_eq, BA_list]
  have eS : S.toList = fr := by rw [ByteArray.toList_eq, HL.out]
  have hcb : ((BA T).toList == S.toList) = decide (T = fr) := by
    rw [eT, eS]
    by_cases h : T = fr
    · simp [h]
    · rw [decide_eq_false h]; simpa using h
  have HCB := hide hcb
  clear hb4 hT4 C4 HT2 eT eS hcb htl
  go_wp2_with fail
  refine C5.out.mono ?_
  rintro e w5 ⟨h5, hb5⟩
  have HB5 := hide (HB4.out.trans (hb5.mono (by omega)))
  clear hb5 C5
  by_cases hTf : T = fr
  · have hb : ((BA T).toList == S.toList) = true := by rw [HCB.out]; exact decide_eq_true hTf
    rcases h5 with ⟨_, v5, rfl, _⟩ | ⟨hno, _⟩
    · clear hTf hcase
      go_wp2
      go_ret
      exact ⟨rfl, HB5.out⟩
    · rw [HTL.out, hTf] at hno; exact absurd HFr.out.1 hno
  · have hb : ((BA T).toList == S.toList) = false := by rw [HCB.out]; exact decide_eq_false hTf
    rcases h5 with ⟨hyes, _⟩ | ⟨_, rfl⟩
    · rw [HTL.out] at hyes
      rcases hcase with h | h
      · exact absurd h hTf
      · exact absurd hyes h
    · clear hTf hcase
      go_wp2
      go_ret
      exact ⟨rfl, HB5.out⟩
set_option maxRecDepth 100000 in
/-- What the walk gives, for every argument. -/
theorem bursts_contract (H : Type) (enc : TypeId × Value → H) (W : World) (base : Nat) (args : Array Value) (ds gs : List (DataW H)) (before : List MemPlace)
    (hval : ∀ (j : Nat) t v, Tryd.f6.params[j]? = some t → args[j]? = some v → Value.okWide Tryd.prog W .any base t v)
    (hW : DataW.Whole enc Tryd.prog Tryd.f6.params.toList Rows.burstsSpec.vars false W args.toList ds gs before)
    (hz : (DataW.weightsEach Tryd.prog (Tryd.f6.params.toList ++ []) (ds ++ gs)).all (· ≤ reachBytes) = true) (hL : laidMetH Tryd.prog Rows.oneRow.laid W) :
    Calls Tryd.prog 6 args W fun e W' => ∃ v, e = .returned v ∧ Rows.burstsSpec.post enc Tryd.prog Tryd.f6 false true false false W args v W' := by
  have hW' := hW
  obtain ⟨p, q, hA0, hV, rfl, hfz, hnd⟩ := hW
  have hA : DataW.TrodAll enc Tryd.prog W 0 (fun _ => true) true Tryd.f6.params.toList args.toList ds p := hA0
  rw [Tryd.params6] at hA hval hz
  obtain ⟨v0, vs0, d0, ds0, p0, q0, hargs, rfl, rfl, h0, r0⟩ := trodAll_cons hA
  obtain ⟨v1, vs1, d1, ds1, p1, q1, rfl, rfl, rfl, h1, r1⟩ := trodAll_cons r0
  obtain ⟨v2, vs2, d2, ds2, p2, q2, rfl, rfl, rfl, h2, r2⟩ := trodAll_cons r1
  obtain ⟨rfl, rfl, rfl⟩ := trodAll_nil r2
  obtain rfl : args = #[v0, v1, v2] := by cases args; simp_all
  obtain ⟨rfl, rfl⟩ := trodVars_none hV
  obtain ⟨a0, len, cap, rfl⟩ := okWide_slice Tryd.underlying30 (hval 0 30 v0 rfl rfl)
  obtain ⟨cut, rfl, rfl, rfl, wc⟩ := open_int Tryd.underlying3 (hval 1 3 v1 rfl rfl) h1
  obtain ⟨mask, rfl, rfl, rfl, wm⟩ := open_int Tryd.underlying3 (hval 2 3 v2 rfl rfl) h2
  obtain ⟨raws, hR, hlen⟩ := raws_of h0
  have hbc := wf_i64 wc
  have hll : raws.length ≤ 100000000000000 := by
    rcases hlen with ⟨_, h⟩ | ⟨elems, spare, rfl, h⟩
    · omega
    · have h2 := sized_slice hz (j := 0) (t := 30) rfl rfl Tryd.underlying30
      rw [Tryd.bytesRaw] at h2
      have := reachBytes_lt
      omega
  have hlt : ∀ x ∈ p0, x.block < W.heap.size := fun x hx => hW'.lt x (by simp [hx])
  refine (bursts_any _ raws cut mask W hR hll hbc.1 hbc.2 (tabs_of hL)).mono fun e W' ⟨he, hB⟩ => ?_
  subst he
  refine ⟨_, rfl, _, _, _, [], p0 ++ ([] ++ []), [], hW', ?_, ?_, ?_, hB.frame _, fun h => by cases h⟩
  · exact trodAll_mk1 (shut_bool Tryd.underlying4 true)
  · rw [Tryd.params6]
    exact trodAll_mk3 (Below.trod Tryd.laidOut Tryd.rawReads Tryd.rawType h0 hB hlt) (shut_int Tryd.underlying3 wc) (shut_int Tryd.underlying3 wm)
  · exact rfl
theorem bursts_laid (os : Os) : laidMet Tryd.prog Rows.burstsRow.laid (({ World.holding Tryd.prog os ⟨#[], #[], []⟩ with heap := layTabs (World.holding Tryd.prog os ⟨#[], #[], []⟩).heap } : World).forCall (fun _ _ => 0) ⟨#[], #[.slice none 0 0, .int .i64 0, .int .i64 0], []⟩).memory :=
  laidMet_of_run' 8 (by kernel_rfl) (by kernel_rfl)
theorem bursts_reads (os : Os) {H : Type} (enc : TypeId × Value → H) : ∃ places, DataW.whole enc Tryd.prog (({ World.holding Tryd.prog os ⟨#[], #[], []⟩ with heap := layTabs (World.holding Tryd.prog os ⟨#[], #[], []⟩).heap } : World).forCall (fun _ _ => 0) ⟨#[], #[.slice none 0 0, .int .i64 0, .int .i64 0], []⟩).memory Tryd.f6.params.toList Rows.burstsSpec.vars false (#[.slice none 0 0, .int .i64 0, .int .i64 0] : Array Value).toList 8 = some ([.nil, .lit (.int .i64 0), .lit (.int .i64 0)], [], places) :=
  ⟨[], by kernel_rfl⟩

set_option maxRecDepth 100000 in
theorem bursts_lifted (os : Os) (started : os.Started) (H : Type) (enc : TypeId × Value → H) (F : Stop.Interp) :
    ReturnsInHanded {} Tryd.checked os 6 .any ((OpenSpec.ofChange Rows.burstsSpec).preRow enc Tryd.prog Tryd.f6 Rows.burstsRow.domain false Rows.burstsRow.laid) (((OpenSpec.ofChange Rows.burstsSpec).at F).post enc Tryd.prog Tryd.f6 false true false false) := by
  obtain ⟨places, hx⟩ := bursts_reads os enc
  refine returnsInHanded_of_row (C := Tryd.checked) (s := OpenSpec.ofChange Rows.burstsSpec) Tryd.own started (by kernel_rfl) Tryd.func6
    (witness_row_at (enc := enc) (C := Tryd.checked) false { World.holding Tryd.prog os ⟨#[], #[], []⟩ with heap := layTabs (World.holding Tryd.prog os ⟨#[], #[], []⟩).heap } #[.slice none 0 0, .int .i64 0, .int .i64 0] rfl (by kernel_rfl) (by kernel_rfl) (by kernel_rfl)
      (OpenSpec.preRow_of_cond 8 hx (by kernel_rfl) (fun k hk => by cases hk) (by kernel_rfl) (bursts_laid os))) ?_
  intro W base args ds gs before hval hW _ _ hz hL _ _
  exact bursts_contract H enc W base args ds gs before hval hW hz hL

theorem bursts_said : Rows.BurstsSaid :=
  OpenClaim.holds_of_cond 6 Tryd.f6 rfl rfl rfl rfl rfl rfl rfl ⟨rfl, rfl, rfl, rfl, rfl⟩ rfl rfl rfl rfl rfl (by kernel_rfl) Tryd.func6 (by kernel_rfl)
    (of_decide_eq_true (by kernel_rfl)) (by unfold Func.isWrapper; first | (rw [if_pos (by decide +kernel)]; kernel_rfl) | (rw [if_neg (by decide +kernel)]; exact ⟨rfl, rfl⟩))
    (fun os started H enc _ F => by rw [OpenClaim.pre_eq_preRow]; exact bursts_lifted os started H enc F)
theorem bursts_plain (f : FuncId) (fn : Func) (hf : Tryd.pinned.checked.prog.funcNamed Rows.burstsRow.func = some f) (hfn : Tryd.pinned.checked.prog.funcs[f]? = some fn) :
    false = Tryd.pinned.checked.prog.looks [] ∧ ∀ (j : Nat) t, fn.params[j]? = some t → Tryd.pinned.checked.prog.wantsStandIn t = false := by
  obtain rfl : f = 6 := Option.some.inj ((show Tryd.prog.funcNamed Rows.burstsRow.func = some 6 by kernel_rfl).symm.trans hf) |>.symm
  obtain rfl : fn = Tryd.f6 := (Option.some.inj (Tryd.func6.symm.trans hfn)).symm
  refine ⟨by kernel_rfl, fun j t ht => ?_⟩
  rw [Tryd.params6] at ht
  have hm := Array.mem_of_getElem? ht
  simp at hm
  rcases hm with rfl | rfl
  · exact (show Tryd.prog.wantsStandIn 30 = false by kernel_rfl)
  · exact (show Tryd.prog.wantsStandIn 3 = false by kernel_rfl)
/-- The card. -/
theorem bursts_card : Rows.BurstsCardSaid :=
  Claim7.holds_tied_plain_at .later [] _ _ _ _ bursts_said (fun _ h => by cases h) (by kernel_rfl) (fun _ h => by cases h) bursts_row_tie rfl ⟨rfl, rfl⟩ (by kernel_rfl) rfl bursts_plain (by kernel_rfl)
end Go.Proofs.YthpfknlbhojonaaDoor

/- 'choirkeep.One', for every string and every list of raw samples: whatever is read as a frame is just what Encode makes of it. The first form's statement and its card: no condition beside the row's own. -/
import Derived.Test.YtcidgfdiacehmaaDoorOuter
import Derived.Test.YtcidgfdiacehmaaDoorCards
import Derived.Test.YtcidgfdiacehmaaDoorTie
import Derived.WalkKit
import Derived.ProofKit
import Derived.Deep.DeepHandedRow
namespace Go.Proofs.YtcidgfdiacehmaaDoor
open Go.RowKit Go.Lib Go.ChangeShapes Go.WideShapes Go.ChangeAt
open Go.ChangeMaps (open_string shut_string)

set_option maxHeartbeats 400000 in
theorem one_any (s : ByteArray) (v : Value) (raws : List (Int × Int × Nat)) (w : World) (hR : RawsAt w w.heap.size v raws) (hl : raws.length ≤ 100000000000000) (hs : s.size ≤ 140737488355328) (hT : Tabs w) :
    Calls Tryd.prog 5 #[.string s, v] w fun e w' => e = .returned (.bool true) ∧ Below w.heap.size w w' := by
  have h3 := hT.lt
  have C1 := hide (kbatch_any w.heap.size v raws w hR (Nat.le_refl _) hl)
  have HT := hide hT
  obtain ⟨ra, rc, rfl, _⟩ := id hR
  clear hR hT
  go_enter Tryd.func5, Tryd.ntmps5
  go_wp2_with fail
  refine C1.out.mono ?_
  rintro e w1 ⟨v1, bs, rfl, hB1, hok, hlim, _, hb1⟩
  have hT1 := HT.out.below hb1 h3
  have C2 := hide (packed_any w1.heap.size v1 bs w1 hB1 (Nat.le_refl _) hT1 hok hlim)
  have HB1 := hide hb1
  have HT1 := hide hT1
  have hs1 := hb1.size
  have hne : (BA (frameOf (payload bs))).toList.isEmpty = false := by
    rw [ByteArray.toList_eq, BA_list]; simp [frameOf, headOf]
  obtain ⟨va, vc, rfl, _⟩ := id hB1
  clear hB1 hb1 hT1 C1 hok hlim
  go_wp2_with fail
  refine C2.out.mono ?_
  rintro e w2 ⟨rfl, hb2⟩
  have hT2 := HT1.out.below hb2 (by omega)
  have hs2 := hb2.size
  have HB2 := hide (HB1.out.trans (hb2.mono hs1))
  have HT2 := hide hT2
  have C3 := hide (decode_any s w2 hs hT2)
  clear hb2 hT2 C2
  go_wp2_with fail
  refine C3.out.mono ?_
  rintro e w3 ⟨⟨hF, v3, rfl, hf3⟩ | ⟨_, rfl⟩, hb3⟩
  · have hBA := hf3.batchAt (payR_small (BA (inner s.data.toList))).2
    have hT3 := HT2.out.below hb3 (by omega)
    have C4 := hide (encode_any w3.heap.size v3 (got s.data.toList) w3 hBA (Nat.le_refl _) hT3 (small_of hF.limits))
    have HB3 := hide (HB2.out.trans (hb3.mono (by omega)))
    have hs3 := hb3.size
    have hE : (⟨(frameOf (payload (got s.data.toList))).toArray⟩ : ByteArray) = s := by
      have h := hF.eq
      apply bytes_inj
      show (frameOf (payload (got s.data.toList))).toArray.toList = _
      rw [List.toList_toArray]; exact h.symm
    have hC : ∀ n, Code (got s.data.toList) n → n = 0 := fun n hn => by
      rcases hn with ⟨_, h⟩ | ⟨_, _, h⟩ | ⟨h, _⟩
      · exact absurd hF.batch h
      · exact absurd hF.limits h
      · exact h
    rw [hE] at C4
    have HC := hide hC
    obtain ⟨ga, gc, rfl, _⟩ := id hBA
    clear hF hf3 hb3 hBA hT3 C3 hE hC
    generalize got s.data.toList = bs3 at *
    go_wp2_with fail
    refine C4.out.mono ?_
    rintro e w4 ⟨⟨n, hn, rfl⟩, hb4⟩
    obtain rfl := HC.out n hn
    have HB4 := hide (HB3.out.trans (hb4.mono (by omega)))
    simp only [if_true]
    clear hn hb4 C4
    go_wp2
    go_ret
    exact ⟨rfl, HB4.out⟩
  · have HB3 := hide (HB2.out.trans (hb3.mono (by omega)))
    clear hb3 C3
    go_wp2
    go_ret
    exact ⟨rfl, HB3.out⟩
set_option maxRecDepth 100000 in
/-- What the walk gives, for every argument. -/
theorem one_contract (H : Type) (enc : TypeId × Value → H) (W : World) (base : Nat) (args : Array Value) (ds gs : List (DataW H)) (before : List MemPlace)
    (hval : ∀ (j : Nat) t v, Tryd.f5.params[j]? = some t → args[j]? = some v → Value.okWide Tryd.prog W .any base t v)
    (hW : DataW.Whole enc Tryd.prog Tryd.f5.params.toList Rows.oneSpec.vars false W args.toList ds gs before)
    (hz : (DataW.weightsEach Tryd.prog (Tryd.f5.params.toList ++ []) (ds ++ gs)).all (· ≤ reachBytes) = true) (hL : laidMetH Tryd.prog Rows.oneRow.laid W) :
    Calls Tryd.prog 5 args W fun e W' => ∃ v, e = .returned v ∧ Rows.oneSpec.post enc Tryd.prog Tryd.f5 false true false false W args v W' := by
  have hW' := hW
  obtain ⟨p, q, hA0, hV, rfl, hfz, hnd⟩ := hW
  have hA : DataW.TrodAll enc Tryd.prog W 0 (fun _ => true) true Tryd.f5.params.toList args.toList ds p := hA0
  rw [Tryd.params5] at hA hval hz
  obtain ⟨v0, vs0, d0, ds0, p0, q0, hargs, rfl, rfl, h0, r0⟩ := trodAll_cons hA
  obtain ⟨v1, vs1, d1, ds1, p1, q1, rfl, rfl, rfl, h1, r1⟩ := trodAll_cons r0
  obtain ⟨rfl, rfl, rfl⟩ := trodAll_nil r1
  obtain rfl : args = #[v0, v1] := by cases args; simp_all
  obtain ⟨rfl, rfl⟩ := trodVars_none hV
  obtain ⟨s, rfl, rfl, rfl, ws⟩ := open_string Tryd.underlying9 (hval 0 9 v0 rfl rfl) h0
  obtain ⟨a0, len, cap, rfl⟩ := okWide_slice Tryd.underlying30 (hval 1 30 v1 rfl rfl)
  obtain ⟨raws, hR, hlen⟩ := raws_of h1
  have hss : s.size ≤ 140737488355328 := by
    have h := sized_string hz (j := 0) rfl rfl
    have e : s.data.toList.length = s.size := by simp
    have := reachBytes_lt
    omega
  have hll : raws.length ≤ 100000000000000 := by
    rcases hlen with ⟨_, h⟩ | ⟨elems, spare, rfl, h⟩
    · omega
    · have h2 := sized_slice hz (j := 1) (t := 30) rfl rfl Tryd.underlying30
      rw [Tryd.bytesRaw] at h2
      have := reachBytes_lt
      omega
  have hlt : ∀ x ∈ p1, x.block < W.heap.size := fun x hx => hW'.lt x (by simp [hx])
  refine (one_any s _ raws W hR hll hss (tabs_of hL)).mono fun e W' ⟨he, hB⟩ => ?_
  subst he
  refine ⟨_, rfl, _, _, _, [], p1, [], hW', ?_, ?_, ?_, hB.frame _, fun h => by cases h⟩
  · exact trodAll_mk1 (shut_bool Tryd.underlying4 true)
  · rw [Tryd.params5]
    exact trodAll_mk2 (shut_string Tryd.underlying9 ws) (Below.trod Tryd.laidOut Tryd.rawReads Tryd.rawType h1 hB hlt)
  · exact rfl
theorem one_laid (os : Os) : laidMet Tryd.prog Rows.oneRow.laid (({ World.holding Tryd.prog os ⟨#[], #[], []⟩ with heap := layTabs (World.holding Tryd.prog os ⟨#[], #[], []⟩).heap } : World).forCall (fun _ _ => 0) ⟨#[], #[.string ⟨#[]⟩, .slice none 0 0], []⟩).memory :=
  laidMet_of_run' 8 (by kernel_rfl) (by kernel_rfl)
theorem one_reads (os : Os) {H : Type} (enc : TypeId × Value → H) : ∃ places, DataW.whole enc Tryd.prog (({ World.holding Tryd.prog os ⟨#[], #[], []⟩ with heap := layTabs (World.holding Tryd.prog os ⟨#[], #[], []⟩).heap } : World).forCall (fun _ _ => 0) ⟨#[], #[.string ⟨#[]⟩, .slice none 0 0], []⟩).memory Tryd.f5.params.toList Rows.oneSpec.vars false (#[.string ⟨#[]⟩, .slice none 0 0] : Array Value).toList 8 = some ([.lit (.string []), .nil], [], places) :=
  ⟨[], by kernel_rfl⟩

set_option maxRecDepth 100000 in
theorem one_lifted (os : Os) (started : os.Started) (H : Type) (enc : TypeId × Value → H) (F : Stop.Interp) :
    ReturnsInHanded {} Tryd.checked os 5 .any ((OpenSpec.ofChange Rows.oneSpec).preRow enc Tryd.prog Tryd.f5 Rows.oneRow.domain false Rows.oneRow.laid) (((OpenSpec.ofChange Rows.oneSpec).at F).post enc Tryd.prog Tryd.f5 false true false false) := by
  obtain ⟨places, hx⟩ := one_reads os enc
  refine returnsInHanded_of_row (C := Tryd.checked) (s := OpenSpec.ofChange Rows.oneSpec) Tryd.own started (by kernel_rfl) Tryd.func5
    (witness_row_at (enc := enc) (C := Tryd.checked) false { World.holding Tryd.prog os ⟨#[], #[], []⟩ with heap := layTabs (World.holding Tryd.prog os ⟨#[], #[], []⟩).heap } #[.string ⟨#[]⟩, .slice none 0 0] rfl (by kernel_rfl) (by kernel_rfl) (by kernel_rfl)
      (OpenSpec.preRow_of_cond 8 hx (by kernel_rfl) (fun k hk => by cases hk) (by kernel_rfl) (one_laid os))) ?_
  intro W base args ds gs before hval hW _ _ hz hL _ _
  exact one_contract H enc W base args ds gs before hval hW hz hL

theorem one_said : Rows.OneSaid :=
  OpenClaim.holds_of_cond 5 Tryd.f5 rfl rfl rfl rfl rfl rfl rfl ⟨rfl, rfl, rfl, rfl, rfl⟩ rfl rfl rfl rfl rfl (by kernel_rfl) Tryd.func5 (by kernel_rfl)
    (of_decide_eq_true (by kernel_rfl)) (by unfold Func.isWrapper; first | (rw [if_pos (by decide +kernel)]; kernel_rfl) | (rw [if_neg (by decide +kernel)]; exact ⟨rfl, rfl⟩))
    (fun os started H enc _ F => by rw [OpenClaim.pre_eq_preRow]; exact one_lifted os started H enc F)
theorem one_plain (f : FuncId) (fn : Func) (hf : Tryd.pinned.checked.prog.funcNamed Rows.oneRow.func = some f) (hfn : Tryd.pinned.checked.prog.funcs[f]? = some fn) :
    false = Tryd.pinned.checked.prog.looks [] ∧ ∀ (j : Nat) t, fn.params[j]? = some t → Tryd.pinned.checked.prog.wantsStandIn t = false := by
  obtain rfl : f = 5 := Option.some.inj ((show Tryd.prog.funcNamed Rows.oneRow.func = some 5 by kernel_rfl).symm.trans hf) |>.symm
  obtain rfl : fn = Tryd.f5 := (Option.some.inj (Tryd.func5.symm.trans hfn)).symm
  refine ⟨by kernel_rfl, fun j t ht => ?_⟩
  rw [Tryd.params5] at ht
  have hm := Array.mem_of_getElem? ht
  simp at hm
  rcases hm with rfl | rfl
  · exact (show Tryd.prog.wantsStandIn 9 = false by kernel_rfl)
  · exact (show Tryd.prog.wantsStandIn 30 = false by kernel_rfl)
/-- The card. -/
theorem one_card : Rows.OneCardSaid :=
  Claim7.holds_tied_plain_at .later [] _ _ _ _ one_said (fun _ h => by cases h) (by kernel_rfl) (fun _ h => by cases h) one_row_tie rfl ⟨rfl, rfl⟩ (by kernel_rfl) rfl one_plain (by kernel_rfl)
end Go.Proofs.YtcidgfdiacehmaaDoor

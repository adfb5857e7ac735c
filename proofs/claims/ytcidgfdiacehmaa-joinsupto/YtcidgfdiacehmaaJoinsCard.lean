/- 'choirlaw.Joins', for any two lists of series of bulk at most 1048576: Join answers the document's join or error, either way round; what is handed in stays, what comes out is its owner's. The second form's statement: its only condition is the row's own bound on the arguments' bulk. -/
import Derived.Test.YtcidgfdiacehmaaJoinsuptoG37
import Derived.Test.YtcidgfdiacehmaaInBulk
import Derived.Test.YtcidgfdiacehmaaJoinsuptoG13
import Derived.Test.YtcidgfdiacehmaaRows
import Derived.WalkKit
import Derived.ProofKit
import Derived.Deep.DeepHandedRow
import Derived.Lib.LaidTab
namespace Go.Proofs.Ytcidgfdiacehmaa
open Go.RowKit Go.Lib Go.ChangeShapes Go.WideShapes Go.ChangeAt

theorem Try.serReads : Try.prog.readableRec 22 = true := by kernel_rfl
theorem Try.serType : 22 < Try.prog.types.size := of_decide_eq_true (by kernel_rfl)
theorem fit_bulk {bs : List Ser} {n : Nat} (h : (bs.map serMu).sum ≤ n) : bs.length ≤ n ∧ (∀ s ∈ bs, s.1.length ≤ n ∧ s.2.length ≤ n) ∧ samN bs ≤ n := by
  induction bs generalizing n with
  | nil => exact ⟨by simp, (fun s h => by cases h), by simp [samN]⟩
  | cons s r ih =>
    rw [List.map_cons, List.sum_cons] at h
    have h : s.1.length + s.2.length + 1 + (r.map serMu).sum ≤ n := h
    obtain ⟨h1, h2, h3⟩ := ih (n := n - (s.1.length + s.2.length + 1)) (by omega)
    refine ⟨by rw [List.length_cons]; omega, fun t ht => ?_, ?_⟩
    · rcases List.mem_cons.1 ht with rfl | ht
      · omega
      · have := h2 t ht; omega
    · have e : samN (s :: r) = s.2.length + samN r := by simp [samN]
      rw [e]; omega
theorem fit_of_bulk {bs : List Ser} (h : (bs.map serMu).sum ≤ 1048576) : Fit bs := by
  obtain ⟨h1, h2, h3⟩ := fit_bulk h
  exact ⟨⟨by omega, fun s hs => by have := h2 s hs; omega⟩, by omega⟩
set_option maxRecDepth 100000 in
/-- What the walk gives, for every argument. -/
theorem joins_contract (H : Type) (enc : TypeId × Value → H) (W : World) (base : Nat) (args : Array Value) (ds gs : List (DataW H)) (before : List MemPlace)
    (hval : ∀ (j : Nat) t v, Try.f3.params[j]? = some t → args[j]? = some v → Value.okWide Try.prog W .any base t v)
    (hW : DataW.Whole enc Try.prog Try.f3.params.toList Rows.joinsSpec.vars false W args.toList ds gs before)
    (hcond : Rows.uptoSmall H (ds ++ gs) = true) (hz : (DataW.weightsEach Try.prog (Try.f3.params.toList ++ []) (ds ++ gs)).all (· ≤ reachBytes) = true) :
    Calls Try.prog 3 args W fun e W' => ∃ v, e = .returned v ∧ Rows.joinsSpec.post enc Try.prog Try.f3 false true false false W args v W' := by
  have hW' := hW
  obtain ⟨p, q, hA0, hV, rfl, hfz, hnd⟩ := hW
  have hA : DataW.TrodAll enc Try.prog W 0 (fun _ => true) true Try.f3.params.toList args.toList ds p := hA0
  rw [Try.params3] at hA hval hz
  obtain ⟨v0, vs0, d0, ds0, p0, q0, hargs, rfl, rfl, h0, r0⟩ := trodAll_cons hA
  obtain ⟨v1, vs1, d1, ds1, p1, q1, rfl, rfl, rfl, h1, r1⟩ := trodAll_cons r0
  obtain ⟨rfl, rfl, rfl⟩ := trodAll_nil r1
  obtain rfl : args = #[v0, v1] := by cases args; simp_all
  obtain ⟨rfl, rfl⟩ := trodVars_none hV
  obtain ⟨a0, len0, cap0, rfl⟩ := okWide_slice Try.underlying22 (hval 0 22 v0 rfl rfl)
  obtain ⟨a1, len1, cap1, rfl⟩ := okWide_slice Try.underlying22 (hval 1 22 v1 rfl rfl)
  obtain ⟨xs, hA1, hu1⟩ := batch_bulk h0 (light_of hz (j := 0) rfl rfl)
  obtain ⟨bs, hB1, hu2⟩ := batch_bulk h1 (light_of hz (j := 1) rfl rfl)
  simp only [Rows.uptoSmall, List.append_nil, Rows.uptoBulkAll, decide_eq_true_eq] at hcond
  have hlt : ∀ x ∈ p0 ++ p1, x.block < W.heap.size := fun x hx => hW'.lt x (by simpa using hx)
  refine (Joins_any W _ _ xs bs hA1 hB1 (fit_of_bulk (by omega)) (fit_of_bulk (by omega))).mono fun e W' ⟨he, hB⟩ => ?_
  subst he
  refine ⟨_, rfl, _, _, _, [], p0 ++ p1, [], hW', ?_, ?_, ?_, hB.frame _, fun h => by cases h⟩
  · exact trodAll_mk1 (shut_bool Try.underlying4 true)
  · rw [Try.params3]
    exact trodAll_mk2 (Below.trod Try.laidOut Try.serReads Try.serType h0 hB fun x hx => hlt x (List.mem_append_left _ hx)) (Below.trod Try.laidOut Try.serReads Try.serType h1 hB fun x hx => hlt x (List.mem_append_right _ hx))
  · exact rfl
theorem joins_laid (os : Os) : laidMet Try.prog Rows.joinsUptoRow.laid ((World.holding Try.prog os ⟨#[], #[], []⟩).forCall (fun _ _ => 0) ⟨#[], #[.slice none 0 0, .slice none 0 0], []⟩).memory :=
  laidMet_of_run' 8 (by kernel_rfl) (by kernel_rfl)
theorem joins_reads (os : Os) {H : Type} (enc : TypeId × Value → H) : ∃ places, DataW.whole enc Try.prog ((World.holding Try.prog os ⟨#[], #[], []⟩).forCall (fun _ _ => 0) ⟨#[], #[.slice none 0 0, .slice none 0 0], []⟩).memory Try.f3.params.toList Rows.joinsSpec.vars false (#[.slice none 0 0, .slice none 0 0] : Array Value).toList 8 = some ([.nil, .nil], [], places) :=
  ⟨[], by kernel_rfl⟩

set_option maxRecDepth 100000 in
theorem joins_lifted (os : Os) (started : os.Started) (H : Type) (enc : TypeId × Value → H) (F : Stop.Interp) :
    ReturnsInHanded {} Try.checked os 3 .any ((Rows.OpenSpec.upto Rows.joinsSpec).preRow enc Try.prog Try.f3 Rows.joinsUptoRow.domain false Rows.joinsUptoRow.laid) (((Rows.OpenSpec.upto Rows.joinsSpec).at F).post enc Try.prog Try.f3 false true false false) := by
  obtain ⟨places, hx⟩ := joins_reads os enc
  refine returnsInHanded_of_row (C := Try.checked) (s := Rows.OpenSpec.upto Rows.joinsSpec) Try.own started (by kernel_rfl) Try.func3
    (witness_row_at (enc := enc) (C := Try.checked) false (World.holding Try.prog os ⟨#[], #[], []⟩) #[.slice none 0 0, .slice none 0 0] rfl (by kernel_rfl) (by kernel_rfl) (by kernel_rfl)
      (OpenSpec.preRow_of_cond 8 hx (by kernel_rfl) (fun k hk => by cases hk; kernel_rfl) (by kernel_rfl) (joins_laid os))) ?_
  intro W base args ds gs before hval hW _ hcond hz hL _ _
  exact joins_contract H enc W base args ds gs before hval hW (hcond _ rfl) hz

theorem joins_said : Rows.JoinsUptoSaid :=
  OpenClaim.holds_of_cond 3 Try.f3 rfl rfl rfl rfl rfl rfl rfl ⟨rfl, rfl, rfl, rfl, rfl⟩ rfl rfl rfl rfl rfl (by kernel_rfl) Try.func3 (by kernel_rfl)
    (of_decide_eq_true (by kernel_rfl)) (by unfold Func.isWrapper; first | (rw [if_pos (by decide +kernel)]; kernel_rfl) | (rw [if_neg (by decide +kernel)]; exact ⟨rfl, rfl⟩))
    (fun os started H enc _ F => by rw [OpenClaim.pre_eq_preRow]; exact joins_lifted os started H enc F)
end Go.Proofs.Ytcidgfdiacehmaa

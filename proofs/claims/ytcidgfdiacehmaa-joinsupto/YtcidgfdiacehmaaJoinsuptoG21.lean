/- 'choirlaw.Joins', for any two lists of series of bulk at most 1048576: Join answers the document's join or error, either way round; what is handed in stays, what comes out is its owner's. The second form's statement: its only condition is the row's own bound on the arguments' bulk. -/
import Derived.Test.YtcidgfdiacehmaaJoinsuptoG17
import Derived.Test.YtcidgfdiacehmaaJoinsuptoG20
/- A list of samples without its first. -/
namespace Go.Proofs.Ytcidgfdiacehmaa
open Go.RowKit Go.Lib
theorem SamplesAt.tail {w : World} {B b o k n : Nat} {x : Int × Nat} {r : List (Int × Nat)} (h : SamplesAt w B (.slice (some ⟨b, o, none⟩) n k) (x :: r)) : n = r.length + 1 ∧ r.length ≤ k - 1 ∧ SamplesAt w B (.slice (some ⟨b, o + 2, none⟩) r.length (k - 1)) r := by
  obtain ⟨a, cap, e, hc, hr, h2⟩ := h
  cases e
  have hc' : r.length + 1 ≤ k := hc
  refine ⟨rfl, by omega, _, _, rfl, by omega, fun y hy => hr y (List.mem_cons_of_mem _ hy), ?_⟩
  rcases h2 with h2 | ⟨b', o', e, hb, hcell⟩
  · cases h2
  · cases e
    refine .inr ⟨b, o + 2, rfl, hb, fun i y hy => ?_⟩
    have := hcell (i + 1) y (by rw [List.getElem?_cons_succ]; exact hy)
    rw [show o + (i + 1) * 2 = o + 2 + i * 2 by omega] at this
    exact this

theorem SamplesAt.none (w : World) (B : Nat) (a : Option Addr) (q : Nat) : SamplesAt w B (.slice a 0 q) [] := ⟨a, q, rfl, Nat.zero_le _, fun x h => (by cases h), .inl rfl⟩
end Go.Proofs.Ytcidgfdiacehmaa

/- join's rests (of samples): add, takeLeast. -/
namespace Go.Proofs.Ytcidgfdiacehmaa
open Go.RowKit Go.Lib

set_option maxRecDepth 100000 in
set_option maxHeartbeats 1000000 in
theorem addS_any {w0 : World} {K : Nat → Obj → Prop} {hb : Nat} {ls : List (List (Int × Nat))} (W : World) (h : HeapS w0 K W hb ls) (a : Option Addr) (c : Nat) (l : List (Int × Nat)) (hv : SamplesAt w0 w0.heap.size (.slice a l.length c) l) (hsm : ∀ k ∈ l :: ls, ∀ x ∈ k, SmS x) (hn : ls.length ≤ 1000000000) :
    Calls Try.prog 66 #[.pointer (some ⟨hb, 0, none⟩), .slice a l.length c] W fun e w' => e = .returned (.tuple #[]) ∧ HeapS w0 K w' hb (restOf l ls) := by
  cases l with
  | nil =>
    have HH : Hid (HeapS w0 K W hb (restOf [] ls)) := by show HeapS w0 K W hb (restOf [] ls); rw [restOf, if_pos rfl]; exact h
    clear h hv hsm
    go_enter Try.func66, Try.ntmps66
    go_wp2
    go_end0
    exact ⟨rfl, HH.out⟩
  | cons x t =>
    have C := hide (heapPushS_any W h a (x :: t).length c (x :: t) hv (by simp) hsm hn)
    have hlen : (x :: t).length = t.length + 1 := rfl
    rw [hlen] at C ⊢
    clear h hv hsm hlen
    go_enter Try.func66, Try.ntmps66
    go_wp2_with fail
    refine C.out.mono ?_
    rintro e w1 ⟨rfl, h1⟩
    have HH : Hid (HeapS w0 K w1 hb (restOf (x :: t) ls)) := by show HeapS w0 K w1 hb (restOf (x :: t) ls); rw [restOf, if_neg (by simp)]; exact h1
    clear h1 C
    go_wp2
    go_end0
    exact ⟨rfl, HH.out⟩


/-- One more block to keep. -/
theorem HeapS.more {w0 : World} {K : Nat → Obj → Prop} {W : World} {hb : Nat} {ls : List (List (Int × Nat))} (h : HeapS w0 K W hb ls) (ob : Obj) : HeapS w0 (fun k o => K k o ∨ k = W.heap.size ∧ o = ob) (W.alloc ob) hb ls := by
  refine h.move (by simp) (fun k hk _ => heap_alloc_old W _ hk) (fun k o hk => ?_) (h.below.alloc h.below.size _)
  rcases hk with hk | ⟨rfl, rfl⟩
  · exact ⟨(heap_alloc_old W _ (lt_of_heapS (h.kp hk))).trans (h.kp hk), .inl ⟨o, hk⟩⟩
  · exact ⟨alloc_heap_new W _, .inr (Nat.le_refl _)⟩
/-- Fewer blocks to keep, one of the others written. -/
theorem HeapS.less {w0 : World} {K K' : Nat → Obj → Prop} {W : World} {hb : Nat} {ls : List (List (Int × Nat))} (h : HeapS w0 K W hb ls) (hk : ∀ k o, K' k o → K k o) : HeapS w0 K' W hb ls :=
  h.move (Nat.le_refl _) (fun _ _ _ => rfl) (fun k o ho => ⟨h.kp (hk k o ho), .inl ⟨o, hk k o ho⟩⟩) h.below
theorem HeapS.lt {w0 : World} {K : Nat → Obj → Prop} {W : World} {hb : Nat} {ls : List (List (Int × Nat))} (h : HeapS w0 K W hb ls) : hb < W.heap.size := by
  obtain ⟨lv, vs, ls', h1, _⟩ := h; exact h1.rst.lt

theorem results_cell1S {fn : Func} {p : Tmp} {ty : TypeId} (h : fn.results = #[.cell p ty]) (tmps : Array Value) (P : Program) (w : World) :
    (results fn tmps).run P w = ((asAddr (tmps.getD p undef)).run P w).andThen fun a w₁ => (loadVar ty a).run P w₁ := by
  simp only [results, h]
  simp [Sem.run_bind, Result.andThen]

set_option maxRecDepth 100000 in
set_option maxHeartbeats 1000000 in
theorem takeLeastS_any {w0 : World} {K : Nat → Obj → Prop} {hb : Nat} {ls : List (List (Int × Nat))} (W : World) (h : HeapS w0 K W hb ls) (hsm : ∀ k ∈ ls, ∀ x ∈ k, SmS x) (hn : ls.length ≤ 1000000000) (h0 : ls ≠ []) :
    Calls Try.prog 68 #[.pointer (some ⟨hb, 0, none⟩)] W fun e w' => ∃ a0 a1 x t ms, e = .returned (.agg #[a0, a1]) ∧ ElS w0 x a0 a1 ∧ ls.Perm ((x :: t) :: ms) ∧ (∀ k ∈ ls, ∀ y, k.head? = some y → cmpT x y ≤ 0) ∧ HeapS w0 K w' hb (restOf t ms) ∧ W.heap.size ≤ w'.heap.size := by
  have hta := assertS
  have HK := hide h
  have hws := h.below.size
  obtain ⟨K', hK', HIn⟩ : ∃ K', HeapS w0 K' (W.alloc (.cells #[(.int .i64 0), (.int .u64 0)] 33)) hb ls ∧ Hid (∀ k o, K' k o ↔ K k o ∨ k = W.heap.size ∧ o = .cells #[(.int .i64 0), (.int .u64 0)] 33) := ⟨_, h.more _, fun k o => Iff.rfl⟩
  have C1 := hide (heapPopS_any (W.alloc (.cells #[(.int .i64 0), (.int .u64 0)] 33)) hK' hsm hn h0)
  clear hK'
  have HSm := hide hsm
  clear h hsm
  go_enter Try.func68, Try.ntmps68
  go_wp2_with fail
  refine C1.out.mono ?_
  rintro e w1 ⟨a, m, c, x, t, ms, rfl, hA, hP, hM, hH⟩
  obtain ⟨b, o, k, a0, a1, he, hb0, p0, p1, hE⟩ := hA.head
  cases he
  obtain ⟨_, hk1, hT⟩ := hA.tail
  have hml : ms.length ≤ 1000000000 := by have := hP.length_eq; simp at this; omega
  have C2 : Hid (∀ A q, (t = [] ∨ A = ⟨b, o + 2, none⟩ ∧ q = c - 1) → Calls Try.prog 66 #[.pointer (some ⟨hb, 0, none⟩), .slice (some A) t.length q] w1 fun e w' => e = .returned (.tuple #[]) ∧ HeapS w0 K' w' hb (restOf t ms)) := fun A q hq => by
    refine addS_any w1 hH _ _ t ?_ (fun q hq y hy => by
      rcases List.mem_cons.1 hq with rfl | hq
      · exact HSm.out _ (hP.mem_iff.2 (List.mem_cons_self ..)) y (List.mem_cons_of_mem _ hy)
      · exact HSm.out q (hP.mem_iff.2 (List.mem_cons_of_mem _ hq)) y hy) hml
    rcases hq with rfl | ⟨rfl, rfl⟩
    · exact SamplesAt.none _ _ _ _
    · exact hT
  have hc1 : Hid (c = 1 → t = []) := fun e => List.length_eq_zero_iff.1 (by omega)
  have HE := hide hE
  have HP := hide hP
  have HM := hide hM
  clear hE hP hM hH hA hT C1
  go_wp2_with fail
  all_goals
    refine (C2.out _ _ (by first | exact .inr ⟨rfl, rfl⟩ | (left; apply hc1.out; first | assumption | rfl | omega))).mono ?_
    rintro e w2 ⟨rfl, hH⟩
    have hr := hH.kp ((HIn.out _ _).2 (.inr ⟨rfl, rfl⟩))
    have r0 : w2.cell? ⟨W.heap.size, 0, none⟩ = some (.int .i64 0) := by simp [World.cell?, hr]
    have r1 : w2.cell? ⟨W.heap.size, 1, none⟩ = some (.int .u64 0) := by simp [World.cell?, hr]
    have fr0 : w2.frozen? ⟨W.heap.size, 0, none⟩ = false := by simp [World.frozen?, hr]
    have fr1 : w2.frozen? ⟨W.heap.size, 1, none⟩ = false := by simp [World.frozen?, hr]
    have m0 := (hH.below.cell (p := ⟨b, o, none⟩) hb0).trans p0
    have m1 := (hH.below.cell (p := ⟨b, o + 1, none⟩) hb0).trans p1
    have hsz := lt_of_heapS hr
    have HF : Hid (∀ u v, HeapS w0 K ((w2.setCell ⟨W.heap.size, 0, none⟩ u).setCell ⟨W.heap.size, 1, none⟩ v) hb (restOf t ms)) := fun u v => by
      refine hH.move (by simp) (fun k hk hn => ?_) (fun k o hk => ?_) ((hH.below.setCell hws _).setCell hws _)
      · have hne : k ≠ W.heap.size := fun e => hn _ ((HIn.out _ _).2 (.inr ⟨e, rfl⟩))
        exact (Below.heap_setCell _ _ _ k hne).trans (Below.heap_setCell _ _ _ k hne)
      · have hne : k ≠ W.heap.size := fun e => by
          have := lt_of_heapS (HK.out.kp hk); omega
        exact ⟨(Below.heap_setCell _ _ _ k hne).trans ((Below.heap_setCell _ _ _ k hne).trans (hH.kp ((HIn.out _ _).2 (.inl hk)))), .inl ⟨o, (HIn.out _ _).2 (.inl hk)⟩⟩
    clear hH hr p0 p1 hc1 C2
    obtain ⟨rfl, rfl⟩ := id HE.out
    go_wp2
    (try simp only [Exit.inBlock, Exit.then])
    refine bodyPost_ret (v := .agg #[(.int .i64 x.1), (.int .u64 x.2)]) (by rw [results_cell1S rfl]; go_simp) rfl ?_
    exact ⟨_, _, x, t, ms, rfl, HE.out, HP.out, HM.out, HF.out _ _, by simp; omega⟩
end Go.Proofs.Ytcidgfdiacehmaa

/- 'choirkeep.Lasts', for any two lists of steps (100 of each are done) and any numbers: what a replica had when it was synced or compacted it has behind any crash and restart, whatever came between; and a second restart changes nothing. The first form's statement and its card: no condition beside the row's own. -/
import Derived.Test.YtamcclcbmenjdaaGreatDoorLastsG36
import Derived.Deep.RegionLaw
import Derived.Lib.SliceRun
/- What is under way: slices.Delete of one message. -/
namespace Go.Proofs.YtamcclcbmenjdaaGreatDoor
open Go.RowKit Go.Lib

/-- A message's cells. -/
def Msg.cs (m : Msg) : List Value := [.int .i64 m.fr, .int .i64 m.to, .string m.by_, .int .i64 m.sp]
def flatM (ms : List Msg) : List Value := ms.flatMap Msg.cs
theorem flatM_cons (m : Msg) (r : List Msg) : flatM (m :: r) = m.cs ++ flatM r := by simp [flatM]
theorem flatM_app (a b : List Msg) : flatM (a ++ b) = flatM a ++ flatM b := by simp [flatM]
theorem flatM_length : ∀ ms : List Msg, (flatM ms).length = ms.length * 4
  | [] => rfl
  | m :: r => by rw [flatM_cons, List.length_append, flatM_length r, List.length_cons]; simp [Msg.cs]; omega
theorem flatM_one {ms : List Msg} : ∀ u ∈ flatM ms, u.oneCell' = true := by
  intro u hu
  obtain ⟨m, _, hm⟩ := List.mem_flatMap.1 hu
  simp only [Msg.cs, List.mem_cons, List.not_mem_nil, or_false] at hm
  rcases hm with rfl | rfl | rfl | rfl <;> rfl
theorem flatM_none {ms : List Msg} : ∀ u ∈ flatM ms, u.ownBlock = none := by
  intro u hu
  obtain ⟨m, _, hm⟩ := List.mem_flatMap.1 hu
  simp only [Msg.cs, List.mem_cons, List.not_mem_nil, or_false] at hm
  rcases hm with rfl | rfl | rfl | rfl <;> rfl
/-- The cells vs lie from ⟨cb, o⟩ on. -/
def cellsAt (w : World) (cb o : Nat) (vs : List Value) : Prop := ∀ j u, vs[j]? = some u → w.cell? ⟨cb, o + j, none⟩ = some u
theorem cellsAt_app {w : World} {cb o : Nat} {a b : List Value} : cellsAt w cb o (a ++ b) ↔ cellsAt w cb o a ∧ cellsAt w cb (o + a.length) b := by
  constructor
  · intro h
    refine ⟨fun j u hu => h j u ?_, fun j u hu => ?_⟩
    · rw [List.getElem?_append_left (List.getElem?_eq_some_iff.1 hu).1]; exact hu
    · rw [Nat.add_assoc]; apply h; rw [List.getElem?_append_right (by omega), Nat.add_sub_cancel_left]; exact hu
  · rintro ⟨h1, h2⟩ j u hu
    by_cases hj : j < a.length
    · rw [List.getElem?_append_left hj] at hu; exact h1 j u hu
    · rw [List.getElem?_append_right (by omega)] at hu
      have := h2 _ u hu
      rwa [show o + a.length + (j - a.length) = o + j by omega] at this
theorem cellsAt_msg {w : World} {cb o : Nat} {m : Msg} : cellsAt w cb o m.cs ↔ MsgAt w cb o m := by
  constructor
  · intro h
    exact ⟨h 0 _ rfl, h 1 _ rfl, h 2 _ rfl, h 3 _ rfl⟩
  · intro h j u hu
    match j, hu with
    | 0, hu => cases hu; exact h.c0
    | 1, hu => cases hu; exact h.c1
    | 2, hu => cases hu; exact h.c2
    | 3, hu => cases hu; exact h.c3
    | k + 4, hu => simp [Msg.cs] at hu
theorem cellsAt_flat {w : World} {cb : Nat} : ∀ {ms : List Msg} {o : Nat}, cellsAt w cb o (flatM ms) ↔ ∀ i (h : i < ms.length), MsgAt w cb (o + i * 4) ms[i]
  | [], o => ⟨fun _ i h => absurd h (Nat.not_lt_zero _), fun _ j u hu => by simp [flatM] at hu⟩
  | m :: r, o => by
    rw [flatM_cons, cellsAt_app, cellsAt_msg, cellsAt_flat (ms := r)]
    constructor
    · rintro ⟨h1, h2⟩ i hi
      cases i with
      | zero => simpa using h1
      | succ i =>
        have h3 := h2 i (by simpa using hi)
        rw [show o + m.cs.length + i * 4 = o + (i + 1) * 4 by simp [Msg.cs]; omega] at h3
        exact h3
    · intro h
      refine ⟨by have h0 := h 0 (by simp); rw [Nat.zero_mul] at h0; exact h0, fun i hi => ?_⟩
      have h3 := h (i + 1) (by simpa using hi)
      rw [show o + m.cs.length + i * 4 = o + (i + 1) * 4 by simp [Msg.cs]; omega]
      exact h3
theorem Turn.setCells {cb lo hi : Nat} : ∀ (vs : List Value) (o : Nat) {w w1 : World}, Turn w w1 cb lo hi → lo ≤ o → o + vs.length ≤ hi → (∀ v ∈ vs, v.ownBlock = none) → Turn w (w1.setCells cb o vs) cb lo hi
  | [], _, _, _, h, _, _, _ => h
  | v :: r, o, w, w1, h, h1, h2, h3 => Turn.setCells r (o + 1) (h.set o v h1 (by simp at h2; omega) (fun k e => by rw [h3 v (by simp)] at e; cases e)) (by omega) (by simp at h2; omega) (fun u hu => h3 u (by simp [hu]))

theorem run_clear_msg (w : World) (ty : TypeId) (b o c : Nat) (hc : ∀ j, j < 4 → (w.cell? ⟨b, o + j, none⟩).isSome = true) (hf : ∀ j, j < 4 → w.frozen? ⟨b, o + j, none⟩ = false) :
    (Builtin.clear_ #[158] ty #[.slice (some ⟨b, o, none⟩) 1 c]).run Tryz.prog w = .ok (.tuple #[]) (w.setCells b o (Msg.cs ⟨0, 0, .empty, 0⟩)) := by
  have hzc : (Builtin.zeroCells (Value.cells (.agg #[.int .i64 0, .int .i64 0, .string ⟨#[]⟩, .int .i64 0])) 1).toList = Msg.cs ⟨0, 0, .empty, 0⟩ := by kernel_rfl
  have hst := run_storeCells_cells (P := Tryz.prog) b o (Msg.cs ⟨0, 0, .empty, 0⟩) 0 w (by simpa [Msg.cs] using hc) (by simpa [Msg.cs] using hf) (by intro v hv'; simp only [Msg.cs, List.mem_cons, List.not_mem_nil, or_false] at hv'; rcases hv' with rfl | rfl | rfl | rfl <;> rfl)
  simp only [Nat.add_zero] at hst
  have ht : Tryz.prog.underlying 158 = some (.slice 121) := by kernel_rfl
  simp [Builtin.clear_, run_underlying ht, hzc, hst]
theorem msg_info : (Tryz.prog.info? 121).map (·.size) = some 4 := by kernel_rfl
set_option maxHeartbeats 4000000 in
set_option maxRecDepth 1000000 in
/-- slices.Delete of message i. -/
theorem delete_any (W : World) (cb i : Nat) (ms : List Msg) (h : WayAt W cb ms) (hi : i < ms.length) :
    Calls Tryz.prog 126 #[.slice (some ⟨cb, 15, none⟩) ms.length 30, .int .i64 i, .int .i64 ((i : Int) + 1)] W fun e w' => e = .returned (.slice (some ⟨cb, 15, none⟩) (ms.length - 1) 30) ∧ cellsAt w' cb 15 (flatM (ms.eraseIdx i)) ∧ (∀ j, 15 ≤ j → j < 135 → ∃ v, w'.cell? ⟨cb, j, none⟩ = some v) ∧ Turn W w' cb 15 135 := by
  have hn := h.n
  have hall : cellsAt W cb 15 (flatM ms) := cellsAt_flat.2 h.msg
  obtain ⟨i0, hi0, hz1⟩ := Option.map_eq_some_iff.1 msg_info
  have ht : Tryz.prog.underlying 158 = some (.slice 121) := by kernel_rfl
  have hdl : (ms.drop (i + 1)).length = ms.length - (i + 1) := by simp
  obtain ⟨news, hnews⟩ : ∃ news, news = flatM (ms.drop (i + 1)) := ⟨_, rfl⟩
  have hlen : news.length = (ms.length - (i + 1)) * 4 := by rw [hnews, flatM_length, hdl]
  have hsp : flatM ms = flatM (ms.take (i + 1)) ++ news := by rw [hnews, ← flatM_app, List.take_append_drop]
  have htk : (flatM (ms.take (i + 1))).length = (i + 1) * 4 := by rw [flatM_length, List.length_take]; congr 1; omega
  have hnw : cellsAt W cb (15 + (i + 1) * 4) news := by rw [hsp, cellsAt_app, htk] at hall; exact hall.2
  obtain ⟨A, hA, hsrc⟩ : ∃ A : Addr, (if i = 29 then some (⟨cb, 15, none⟩ : Addr) else some ⟨cb, 15 + (i + 1) * 4, none⟩) = some A ∧ Hid (∀ t u, news[t]? = some u → W.drew.cell? (A.add t) = some u) := by
    by_cases h30 : i = 29
    · refine ⟨⟨cb, 15, none⟩, by rw [if_pos h30], fun t u hu => ?_⟩
      have h0 : news.length = 0 := by rw [hlen]; omega
      rw [List.length_eq_zero_iff.1 h0] at hu
      simp at hu
    · refine ⟨⟨cb, 15 + (i + 1) * 4, none⟩, by rw [if_neg h30], fun t u hu => ?_⟩
      rw [Addr.add_lit]
      exact hnw t u hu
  have s1 : Hid (news.length = (ms.length - (i + 1)) * 4) := hlen
  have s2 : Hid (∀ u ∈ news, u.oneCell' = true) := by rw [hnews]; exact flatM_one
  have s3 : Hid (∀ t, t < news.length → (W.drew.cell? ⟨cb, 15 + i * 4 + t, none⟩).isSome = true ∧ W.drew.frozen? ⟨cb, 15 + i * 4 + t, none⟩ = false) := by
    intro t ht
    rw [hlen] at ht
    obtain ⟨v, hv⟩ := h.there (15 + i * 4 + t) (by omega) (by omega)
    exact ⟨by show (W.cell? _).isSome = true; rw [hv]; rfl, h.fr _⟩
  obtain ⟨W1, hW1⟩ : ∃ W1, W1 = W.drew.setCells cb (15 + i * 4) news := ⟨_, rfl⟩
  have hT1 : Turn W W1 cb 15 135 := by rw [hW1]; exact Turn.setCells news _ ((Turn.refl W cb 15 135).drewN 1) (by omega) (by rw [hlen]; omega) (by rw [hnews]; exact flatM_none)
  have hth : ∀ j, 15 ≤ j → j < 135 → ∃ v, W1.cell? ⟨cb, j, none⟩ = some v := fun j h1 h2 => by
    obtain ⟨v, hv⟩ := h.there j h1 h2
    rw [hW1]
    exact Option.isSome_iff_exists.1 (World.isSome_setCells cb news _ _ _ (by show (W.cell? _).isSome = true; rw [hv]; rfl))
  have hat1 : cellsAt W1 cb 15 (flatM (ms.eraseIdx i)) := by
    rw [List.eraseIdx_eq_take_drop_succ, flatM_app, cellsAt_app, ← hnews]
    have hti : (flatM (ms.take i)).length = i * 4 := by rw [flatM_length, List.length_take]; congr 1; omega
    have ha : cellsAt W cb 15 (flatM (ms.take i)) := by
      have := hall
      rw [← List.take_append_drop i ms, flatM_app, cellsAt_app] at this
      exact this.1
    rw [hti, hW1]
    refine ⟨fun j u hu => ?_, fun j u hu => ?_⟩
    · have hj := (List.getElem?_eq_some_iff.1 hu).1
      rw [World.cell?_setCells_out cb news _ _ _ (fun _ _ => .inl (by show 15 + j < _; omega))]
      exact ha j u hu
    · obtain ⟨hj, hju⟩ := List.getElem?_eq_some_iff.1 hu
      rw [World.cell?_setCells_in cb news _ _ (fun t ht => (s3.out t ht).1) j hj, hju]
  have hcl : ∀ ty, (Builtin.clear_ #[158] ty #[.slice (some ⟨cb, 15 + (i + (ms.length - (i + 1))) * 4, none⟩) (ms.length - (i + (ms.length - (i + 1)))) (30 - (i + (ms.length - (i + 1))))]).run Tryz.prog W1 = .ok (.tuple #[]) (W1.setCells cb (15 + (i + (ms.length - (i + 1))) * 4) (Msg.cs ⟨0, 0, .empty, 0⟩)) := fun ty => by
    rw [show ms.length - (i + (ms.length - (i + 1))) = 1 by omega]
    exact run_clear_msg W1 ty cb _ _ (fun j hj => by obtain ⟨v, hv⟩ := hth (15 + (i + (ms.length - (i + 1))) * 4 + j) (by omega) (by omega); rw [hv]; rfl) (fun j hj => (hT1.frozen _).trans (h.fr _))
  have HAt2 : Hid (cellsAt (W1.setCells cb (15 + (i + (ms.length - (i + 1))) * 4) (Msg.cs ⟨0, 0, .empty, 0⟩)) cb 15 (flatM (ms.eraseIdx i))) := fun j u hu => by
    have hj := (List.getElem?_eq_some_iff.1 hu).1
    rw [flatM_length, List.length_eraseIdx, if_pos hi] at hj
    rw [World.cell?_setCells_out cb _ _ _ _ (fun _ _ => .inl (by show 15 + j < _; omega))]
    exact hat1 j u hu
  have HTh2 : Hid (∀ j, 15 ≤ j → j < 135 → ∃ v, (W1.setCells cb (15 + (i + (ms.length - (i + 1))) * 4) (Msg.cs ⟨0, 0, .empty, 0⟩)).cell? ⟨cb, j, none⟩ = some v) := fun j h1 h2 => by
    obtain ⟨v, hv⟩ := hth j h1 h2
    exact Option.isSome_iff_exists.1 (World.isSome_setCells cb _ _ _ _ (by rw [hv]; rfl))
  have HT2 : Hid (Turn W (W1.setCells cb (15 + (i + (ms.length - (i + 1))) * 4) (Msg.cs ⟨0, 0, .empty, 0⟩)) cb 15 135) := Turn.setCells _ _ hT1 (by omega) (by simp [Msg.cs]; omega) (fun v hv => by simp only [Msg.cs, List.mem_cons, List.not_mem_nil, or_false] at hv; rcases hv with rfl | rfl | rfl | rfl <;> rfl)
  have hW : Hid (W1 = W.drew.setCells cb (15 + i * 4) news) := hW1
  have HE : Hid (ms.length - 1 = i + (ms.length - (i + 1))) := hide (by omega)
  rw [HE.out]
  clear hall hdl hnews hlen hsp htk hnw hW1 hT1 hth hat1 h
  generalize flatM (ms.eraseIdx i) = fl at *
  generalize Msg.cs ⟨0, 0, .empty, 0⟩ = zs at *
  generalize ms.length = n at *
  clear HE
  have hwr : IntKind.i64.wrap ((i : Int) + 1) = (i : Int) + 1 := by rw [IntKind.wrap_i64]; omega
  have hp0 : (0 : Int) ≤ (i : Int) + 1 := by omega
  have hp1 : (i : Int) + 1 ≤ (n : Int) := by omega
  have hp2 : ((i : Int) + 1).toNat = i + 1 := by omega
  have hp3 : (n : Int) ≤ 30 := by omega
  have hp4 : (i : Int) < (n : Int) := by omega
  have hne : ¬ (30 = i + (n - (i + 1))) := by omega
  have hi30 : i ≤ 30 := by omega
  have hi31 : (i : Int) ≤ 30 := by omega
  have hni : ¬ ((i : Int) = (i : Int) + 1) := by omega
  go_enter Tryz.func126, Tryz.ntmps126
  go_wp2_with fail
  go_region_law (refine step_append_room rfl (.tmp 22) (.tmp 25) 158 rfl 121 i0 4 ht hi0 hz1 cb 15 i 30 (by simp [Act.eval, Act.put]) A (n - (i + 1)) (29 - i) news (by simp [Act.eval, Act.put]) s1.out hsrc.out s2.out (by omega) s3.out ?_; rw [← hW.out])
  go_wp2
  go_ret
  exact ⟨rfl, HAt2.out, HTh2.out, HT2.out⟩
end Go.Proofs.YtamcclcbmenjdaaGreatDoor

/- What is under way: Take. -/
namespace Go.Proofs.YtamcclcbmenjdaaGreatDoor
open Go.RowKit Go.Lib

theorem Turn.new {w w1 : World} {cb lo hi : Nat} (h : Turn w w1 cb lo hi) (hc : cb < w.heap.size) {g : Nat} (hg : w.heap.size ≤ g) (j : Nat) (v : Value) : Turn w (w1.setCell ⟨g, j, none⟩ v) cb lo hi :=
  have hb : ∀ k, k < w.heap.size → (w1.setCell ⟨g, j, none⟩ v).heap[k]? = w1.heap[k]? := fun k hk => Below.heap_setCell w1 ⟨g, j, none⟩ v k (by show k ≠ g; omega)
  ⟨h.os, h.tape, h.output, by simpa using h.size, fun k hk hne => (hb k hk).trans (h.block k hk hne), fun i hi => (World.cell?_of_block (a := ⟨cb, i, none⟩) (hb cb hc)).trans (h.cells i hi), fun i => (World.frozen?_of_block (a := ⟨cb, i, none⟩) (hb cb hc)).trans (h.frozen i), fun i u k e hk => h.heir i u k ((World.cell?_of_block (a := ⟨cb, i, none⟩) (hb cb hc)).symm.trans e) hk⟩
def TakeEnd (W w' : World) (cb : Nat) (ms : List Msg) (i : Int) (e : Ending) : Prop := ∃ n ms' fr to b, e = .returned (.tuple #[.agg #[.int .i64 (fr : Nat), .int .i64 (to : Nat), .string b], .int .i64 (n : Nat)]) ∧ ((n = 7 ∧ ms' = ms ∧ ¬ (0 ≤ i ∧ i < ms.length)) ∨ (n = 0 ∧ ∃ k m, i = (k : Nat) ∧ ms[k]? = some m ∧ ms' = ms.eraseIdx k ∧ fr = m.fr ∧ to = m.to ∧ b = m.by_)) ∧ WayAt w' cb ms' ∧ Turn W w' cb 15 136
set_option maxRecDepth 100000 in
set_option maxHeartbeats 1000000 in
theorem wTake_any (W : World) (cb : Nat) (i : Int) (ms : List Msg) (h : WayAt W cb ms) :
    Calls Tryz.prog 99 #[.pointer (some ⟨cb, 15, none⟩), .int .i64 i] W fun e w' => TakeEnd W w' cb ms i e := by
  have hlt := h.lt
  have hb1 : Below W.heap.size W (W.alloc (.cells #[.int .i64 0, .int .i64 0, .string ⟨#[]⟩] 99)) := (Below.refl _ _).alloc (Nat.le_refl _) _
  have C := hide (isThere_any _ cb i ms (h.below hb1))
  have H := hide h
  have H1 := hide (h.below hb1)
  have hn := h.n
  clear h
  by_cases hi : 0 ≤ i ∧ i < ms.length
  · obtain ⟨k, rfl⟩ : ∃ k : Nat, i = k := ⟨i.toNat, by omega⟩
    have hk : k < ms.length := by omega
    have HG : Hid (ms[k]? = some ms[k]) := List.getElem?_eq_getElem hk
    have c0 := (H.out.msg k hk).c0
    have c1 := (H.out.msg k hk).c1
    have c2 := (H.out.msg k hk).c2
    simp only [hi, decide_true, and_self] at C
    have hk30 : (k : Int) < 30 := by omega
    have hk0 : k < 30 := by omega
    clear hi
    generalize hm : ms[k] = m at *
    go_enter Tryz.func99, Tryz.ntmps99
    go_wp2_with fail
    refine C.out.mono ?_
    rintro e w1 ⟨rfl, rfl⟩
    clear C
    go_wp2_with fail
    have hsz : ((W.alloc (.cells #[.int .i64 0, .int .i64 0, .string ⟨#[]⟩] 99)).alloc (.cells #[.int .i64 m.fr, .int .i64 m.to, .string m.by_] 99)).heap.size = W.heap.size + 2 := by simp
    have hb2 : Below W.heap.size W ((W.alloc (.cells #[.int .i64 0, .int .i64 0, .string ⟨#[]⟩] 99)).alloc (.cells #[.int .i64 m.fr, .int .i64 m.to, .string m.by_] 99)) := hb1.alloc (by simp) _
    have hA : Blk ((W.alloc (.cells #[.int .i64 0, .int .i64 0, .string ⟨#[]⟩] 99)).alloc (.cells #[.int .i64 m.fr, .int .i64 m.to, .string m.by_] 99)) W.heap.size 99 [.int .i64 0, .int .i64 0, .string ⟨#[]⟩] := Blk.kept (Blk.new W _ _) (heap_alloc_old _ _ (by simp))
    have hB : Blk ((W.alloc (.cells #[.int .i64 0, .int .i64 0, .string ⟨#[]⟩] 99)).alloc (.cells #[.int .i64 m.fr, .int .i64 m.to, .string m.by_] 99)) (W.heap.size + 1) 99 [.int .i64 m.fr, .int .i64 m.to, .string m.by_] := by
      have := Blk.new (W.alloc (.cells #[.int .i64 0, .int .i64 0, .string ⟨#[]⟩] 99)) 99 [.int .i64 m.fr, .int .i64 m.to, .string m.by_]
      simpa using this
    generalize (W.alloc (.cells #[.int .i64 0, .int .i64 0, .string ⟨#[]⟩] 99)).alloc (.cells #[.int .i64 m.fr, .int .i64 m.to, .string m.by_] 99) = W4 at *
    have H4 := hide (H.out.below hb2)
    have c5 := H4.out.cnt
    have hn3 : (ms.length : Int) ≤ 30 := by omega
    have hwr : IntKind.i64.wrap ((k : Int) + 1) = (k : Int) + 1 := by rw [IntKind.wrap_i64]; omega
    have CD := hide (delete_any W4.drew cb k ms (H4.out.same rfl) hk)
    clear c0 c1 c2 H1 hb1
    refine region_anyL (S := fun w' => w'.cell? ⟨cb, 135, none⟩ = some (.int .i64 ms.length)) 16 (by kernel_rfl) c5 (fun hS => ?_)
    refine anyL_take 0 (oi := ?zo0) (v := ?zv0) ?zhi0 (by kernel_rfl) (by kernel_rfl) (by kernel_rfl) (by kernel_rfl) (by kernel_rfl) (by kernel_rfl) ?zq0 (Or.inl ⟨?zwa0, ?zy0⟩) hS ?zrest0
    case zhi0 => simp only [List.getElem?_toArray, List.getElem?_cons_zero]; rfl
    case zwa0 => rfl
    case zy0 => intro wz z1; go_simp <;> rfl
    case zq0 => exact fun _ _ _ h => h
    simp only [Act.put, List.setIfInBounds_toArray, List.set_cons_zero, List.set_cons_succ]
    refine anyL_take 1 (oi := ?zo1) (v := ?zv1) ?zhi1 (by kernel_rfl) (by kernel_rfl) (by kernel_rfl) (by kernel_rfl) (by kernel_rfl) (by kernel_rfl) ?zq1 (Or.inl ⟨?zwa1, ?zy1⟩) hS ?zrest1
    case zhi1 => simp only [List.getElem?_toArray, List.getElem?_cons_zero, List.getElem?_cons_succ]; rfl
    case zwa1 => rfl
    case zy1 => intro wz z1; go_simp <;> rfl
    case zq1 => exact fun _ _ _ h => h
    simp only [Act.put, List.setIfInBounds_toArray, List.set_cons_zero, List.set_cons_succ]
    refine anyL_take 2 (oi := ?zo2) (v := ?zv2) ?zhi2 (by kernel_rfl) (by kernel_rfl) (by kernel_rfl) (by kernel_rfl) (by kernel_rfl) (by kernel_rfl) ?zq2 (Or.inl ⟨?zwa2, ?zy2⟩) hS ?zrest2
    case zhi2 => simp only [List.getElem?_toArray, List.getElem?_cons_zero, List.getElem?_cons_succ]; rfl
    case zwa2 => rfl
    case zy2 => intro wz z1; go_simp <;> rfl
    case zq2 => exact fun _ _ _ h => h
    simp only [Act.put, List.setIfInBounds_toArray, List.set_cons_zero, List.set_cons_succ]
    refine anyL_take 3 (oi := ?zo3) (v := ?zv3) ?zhi3 (by kernel_rfl) (by kernel_rfl) (by kernel_rfl) (by kernel_rfl) (by kernel_rfl) (by kernel_rfl) ?zq3 (Or.inl ⟨?zwa3, ?zy3⟩) hS ?zrest3
    case zhi3 => simp only [List.getElem?_toArray, List.getElem?_cons_zero, List.getElem?_cons_succ]; rfl
    case zwa3 => rfl
    case zy3 => intro wz z1; go_simp <;> rfl
    case zq3 => exact fun _ _ _ h => h
    simp only [Act.put, List.setIfInBounds_toArray, List.set_cons_zero, List.set_cons_succ]
    refine anyL_take 4 (oi := ?zo4) (v := ?zv4) ?zhi4 (by kernel_rfl) (by kernel_rfl) (by kernel_rfl) (by kernel_rfl) (by kernel_rfl) (by kernel_rfl) ?zq4 (Or.inl ⟨?zwa4, ?zy4⟩) hS ?zrest4
    case zhi4 => simp only [List.getElem?_toArray, List.getElem?_cons_zero, List.getElem?_cons_succ]; rfl
    case zwa4 => rfl
    case zy4 => intro wz z1; go_simp <;> rfl
    case zq4 => exact fun _ _ _ h => h
    simp only [Act.put, List.setIfInBounds_toArray, List.set_cons_zero, List.set_cons_succ]
    refine anyL_take 5 (oi := ?zo5) (v := ?zv5) ?zhi5 (by kernel_rfl) (by kernel_rfl) (by kernel_rfl) (by kernel_rfl) (by kernel_rfl) (by kernel_rfl) ?zq5 (Or.inl ⟨?zwa5, ?zy5⟩) hS ?zrest5
    case zhi5 => simp only [List.getElem?_toArray, List.getElem?_cons_zero, List.getElem?_cons_succ]; rfl
    case zwa5 => rfl
    case zy5 => intro wz z1; go_simp <;> rfl
    case zq5 => exact fun _ _ _ h => h
    simp only [Act.put, List.setIfInBounds_toArray, List.set_cons_zero, List.set_cons_succ]
    refine anyL_take 6 (oi := ?zo6) (v := ?zv6) ?zhi6 (by kernel_rfl) (by kernel_rfl) (by kernel_rfl) (by kernel_rfl) (by kernel_rfl) (by kernel_rfl) ?zq6 (Or.inl ⟨?zwa6, ?zy6⟩) hS ?zrest6
    case zhi6 => simp only [List.getElem?_toArray, List.getElem?_cons_zero, List.getElem?_cons_succ]; rfl
    case zwa6 => rfl
    case zy6 => intro wz z1; go_simp <;> rfl
    case zq6 => exact fun _ _ _ h => h
    simp only [Act.put, List.setIfInBounds_toArray, List.set_cons_zero, List.set_cons_succ]
    refine anyL_take 7 (oi := ?zo7) (v := ?zv7) ?zhi7 (by kernel_rfl) (by kernel_rfl) (by kernel_rfl) (by kernel_rfl) (by kernel_rfl) (by kernel_rfl) ?zq7 (Or.inl ⟨?zwa7, ?zy7⟩) hS ?zrest7
    case zhi7 => simp only [List.getElem?_toArray, List.getElem?_cons_zero, List.getElem?_cons_succ]; rfl
    case zwa7 => rfl
    case zy7 => intro wz z1; go_simp <;> rfl
    case zq7 => exact fun _ _ _ h => h
    simp only [Act.put, List.setIfInBounds_toArray, List.set_cons_zero, List.set_cons_succ]
    refine anyL_take 8 (oi := ?zo8) (v := ?zv8) ?zhi8 (by kernel_rfl) (by kernel_rfl) (by kernel_rfl) (by kernel_rfl) (by kernel_rfl) (by kernel_rfl) ?zq8 (Or.inl ⟨?zwa8, ?zy8⟩) hS ?zrest8
    case zhi8 => simp only [List.getElem?_toArray, List.getElem?_cons_zero, List.getElem?_cons_succ]; rfl
    case zwa8 => rfl
    case zy8 => intro wz z1; go_simp <;> rfl
    case zq8 => exact fun _ _ _ h => h
    simp only [Act.put, List.setIfInBounds_toArray, List.set_cons_zero, List.set_cons_succ]
    refine anyL_take 9 (oi := ?zo9) (v := ?zv9) ?zhi9 (by kernel_rfl) (by kernel_rfl) (by kernel_rfl) (by kernel_rfl) (by kernel_rfl) (by kernel_rfl) ?zq9 (Or.inl ⟨?zwa9, ?zy9⟩) hS ?zrest9
    case zhi9 => simp only [List.getElem?_toArray, List.getElem?_cons_zero, List.getElem?_cons_succ]; rfl
    case zwa9 => rfl
    case zy9 => intro wz z1; go_simp <;> rfl
    case zq9 => exact fun _ _ _ h => h
    simp only [Act.put, List.setIfInBounds_toArray, List.set_cons_zero, List.set_cons_succ]
    refine anyL_take 10 (oi := ?zo10) (v := ?zv10) ?zhi10 (by kernel_rfl) (by kernel_rfl) (by kernel_rfl) (by kernel_rfl) (by kernel_rfl) (by kernel_rfl) ?zq10 (Or.inl ⟨?zwa10, ?zy10⟩) hS ?zrest10
    case zhi10 => simp only [List.getElem?_toArray, List.getElem?_cons_zero, List.getElem?_cons_succ]; rfl
    case zwa10 => rfl
    case zy10 => intro wz z1; go_simp <;> rfl
    case zq10 => exact fun _ _ _ h => h
    simp only [Act.put, List.setIfInBounds_toArray, List.set_cons_zero, List.set_cons_succ]
    refine anyL_take 11 (oi := ?zo11) (v := ?zv11) ?zhi11 (by kernel_rfl) (by kernel_rfl) (by kernel_rfl) (by kernel_rfl) (by kernel_rfl) (by kernel_rfl) ?zq11 (Or.inl ⟨?zwa11, ?zy11⟩) hS ?zrest11
    case zhi11 => simp only [List.getElem?_toArray, List.getElem?_cons_zero, List.getElem?_cons_succ]; rfl
    case zwa11 => rfl
    case zy11 => intro wz z1; go_simp <;> rfl
    case zq11 => exact fun _ _ _ h => h
    simp only [Act.put, List.setIfInBounds_toArray, List.set_cons_zero, List.set_cons_succ]
    refine anyL_one 12 (o := ?zo12) (by kernel_rfl) ?zhi12 (by kernel_rfl) ?zst12
    case zhi12 => simp only [List.getElem?_toArray, List.getElem?_cons_zero, List.getElem?_cons_succ]; rfl
    intro K hK
    go_simp
    refine CD.out.mono ?_
    rintro e5 w5 ⟨rfl, hat5, hth5, ht5⟩
    have d5 : w5.cell? ⟨cb, 135, none⟩ = some (.int .i64 ms.length) := (ht5.cells 135 (by omega)).trans c5
    refine hK.out _ _ d5 (fun hS2 => ?_)
    have f5 : w5.frozen? ⟨cb, 135, none⟩ = false := (ht5.frozen 135).trans (H4.out.fr 135)
    have htW : Turn W w5 cb 15 136 := ((Turn.of_below hb2 hlt).drewN 1).trans (ht5.wider (Nat.le_refl _) (by omega))
    have hA5 := Blk.kept hA (ht5.block W.heap.size (by show W.heap.size < W4.heap.size; omega) (by omega))
    have hB5 := Blk.kept hB (ht5.block (W.heap.size + 1) (by show W.heap.size + 1 < W4.heap.size; omega) (by omega))
    have hsz5 : W.heap.size + 2 ≤ w5.heap.size := by have := ht5.size; have h2 : W4.drew.heap.size = W4.heap.size := rfl; omega
    have HAt5 := hide hat5
    have HTh5 := hide hth5
    have HTW := hide htW
    have HA5 := hide hA5
    have HB5 := hide hB5
    have HFr : Hid (∀ i, w5.frozen? ⟨cb, i, none⟩ = false) := fun i => (ht5.frozen i).trans (H4.out.fr i)
    clear hK K hS CD hat5 hth5 ht5 htW hA hB hA5 hB5 c5 H4 hb2
    refine anyL_take 13 (oi := ?zo13) (v := ?zv13) ?zhi13 (by kernel_rfl) (by kernel_rfl) (by kernel_rfl) (by kernel_rfl) (by kernel_rfl) (by kernel_rfl) ?zq13 (Or.inl ⟨?zwa13, ?zy13⟩) hS2 ?zrest13
    case zhi13 => simp only [List.getElem?_toArray, List.getElem?_cons_zero, List.getElem?_cons_succ]; rfl
    case zwa13 => rfl
    case zy13 => intro wz z1; go_simp <;> rfl
    case zq13 => exact fun _ _ _ h => h
    simp only [Act.put, List.setIfInBounds_toArray, List.set_cons_zero, List.set_cons_succ]
    refine anyL_take 14 (oi := ?zo14) (v := ?zv14) ?zhi14 (by kernel_rfl) (by kernel_rfl) (by kernel_rfl) (by kernel_rfl) (by kernel_rfl) (by kernel_rfl) ?zq14 (Or.inl ⟨?zwa14, ?zy14⟩) hS2 ?zrest14
    case zhi14 => simp only [List.getElem?_toArray, List.getElem?_cons_zero, List.getElem?_cons_succ]; rfl
    case zwa14 => rfl
    case zy14 => intro wz z1; go_simp <;> rfl
    case zq14 => exact fun _ _ _ h => h
    simp only [Act.put, List.setIfInBounds_toArray, List.set_cons_zero, List.set_cons_succ]
    refine anyL_take 15 (oi := ?zo15) (v := ?zv15) ?zhi15 (by kernel_rfl) (by kernel_rfl) (by kernel_rfl) (by kernel_rfl) (by kernel_rfl) (by kernel_rfl) ?zq15 (Or.inl ⟨?zwa15, ?zy15⟩) hS2 ?zrest15
    case zhi15 => simp only [List.getElem?_toArray, List.getElem?_cons_zero, List.getElem?_cons_succ]; rfl
    case zwa15 => rfl
    case zy15 => intro wz z1; go_simp <;> rfl
    case zq15 => exact fun _ _ _ h => h
    simp only [Act.put, List.setIfInBounds_toArray, List.set_cons_zero, List.set_cons_succ]
    refine anyL_last 16 (o := ?zo16) (by kernel_rfl) ?zhi16 (by kernel_rfl) (by kernel_rfl) ?zst16
    case zhi16 => simp only [List.getElem?_toArray, List.getElem?_cons_zero, List.getElem?_cons_succ]; rfl
    intro K hK
    go_simp
    refine hK.out _ _ ?_
    clear hK K hS2
    have hel : (ms.eraseIdx k).length = ms.length - 1 := by rw [List.length_eraseIdx, if_pos hk]
    have t6 : Turn w5 (w5.setCell ⟨cb, 135, none⟩ (.int .i64 ((ms.length - 1 : Nat) : Int))) cb 135 136 := (Turn.refl _ cb _ _).set _ _ (by omega) (by omega)
    have HWy : Hid (WayAt (w5.setCell ⟨cb, 135, none⟩ (.int .i64 ((ms.length - 1 : Nat) : Int))) cb (ms.eraseIdx k)) := by
      refine ⟨by omega, ?_, fun i hi => ?_, fun j h1 h2 => ?_, fun i => (t6.frozen i).trans (HFr.out i)⟩
      · rw [hel]; exact World.cell?_setCell_same _ _ _ d5
      · exact (cellsAt_flat.1 HAt5.out i hi).turn t6 (.inr (by omega))
      · rw [t6.cells j (by omega)]; exact HTh5.out j h1 h2
    have HT6 := hide (HTW.out.trans (t6.wider (lo' := 15) (by omega) (Nat.le_refl _)))
    have hA6 := HA5.out.other (k := cb) (i := 135) (by omega) (.int .i64 ((ms.length - 1 : Nat) : Int))
    have hB6 := HB5.out.other (k := cb) (i := 135) (by omega) (.int .i64 ((ms.length - 1 : Nat) : Int))
    have hs6 : W.heap.size + 2 ≤ (w5.setCell ⟨cb, 135, none⟩ (.int .i64 ((ms.length - 1 : Nat) : Int))).heap.size := by simpa using hsz5
    generalize w5.setCell ⟨cb, 135, none⟩ (.int .i64 ((ms.length - 1 : Nat) : Int)) = w6 at *
    have a0 := hA6.cell (i := 0) rfl
    have a1 := hA6.cell (i := 1) rfl
    have a2 := hA6.cell (i := 2) rfl
    have g0 := hA6.frozen 0
    have g1 := hA6.frozen 1
    have g2 := hA6.frozen 2
    have b0 := hB6.cell (i := 0) rfl
    have b1 := hB6.cell (i := 1) rfl
    have b2 := hB6.cell (i := 2) rfl
    have HEnd : Hid (∀ w', w' = ((w6.setCell ⟨W.heap.size, 0, none⟩ (.int .i64 m.fr)).setCell ⟨W.heap.size, 1, none⟩ (.int .i64 m.to)).setCell ⟨W.heap.size, 2, none⟩ (.string m.by_) → TakeEnd W w' cb ms k (.returned (.tuple #[.agg #[.int .i64 m.fr, .int .i64 m.to, .string m.by_], .int .i64 0]))) := by
      rintro w' rfl
      refine ⟨0, ms.eraseIdx k, m.fr, m.to, m.by_, rfl, .inr ⟨rfl, k, m, rfl, HG.out, rfl, rfl, rfl, rfl⟩, ?_, ((HT6.out.new hlt (Nat.le_refl _) _ _).new hlt (Nat.le_refl _) _ _).new hlt (Nat.le_refl _) _ _⟩
      refine HWy.out.same ?_
      have hne : cb ≠ W.heap.size := by omega
      rw [Below.heap_setCell _ _ _ cb hne, Below.heap_setCell _ _ _ cb hne, Below.heap_setCell _ _ _ cb hne]
    have hX : Blk (((w6.setCell ⟨W.heap.size, 0, none⟩ (.int .i64 m.fr)).setCell ⟨W.heap.size, 1, none⟩ (.int .i64 m.to)).setCell ⟨W.heap.size, 2, none⟩ (.string m.by_)) W.heap.size 99 [.int .i64 m.fr, .int .i64 m.to, .string m.by_] := ((hA6.set 0 _).set 1 _).set 2 _
    have x0 := hX.cell (i := 0) rfl
    have x1 := hX.cell (i := 1) rfl
    have x2 := hX.cell (i := 2) rfl
    clear HT6 HWy hA6 hB6 hX HA5 HB5 HAt5 HTh5 HTW t6 hel d5 f5 hsz5 HFr
    go_wp2
    refine bodyPost_ret (v := .tuple #[.agg #[.int .i64 m.fr, .int .i64 m.to, .string m.by_], .int .i64 0]) (by simp [results, Tryz.results99, go_sem, x0, x1, x2]) rfl ?_
    exact HEnd.out _ rfl
  · have hd : decide (0 ≤ i ∧ i < ms.length) = false := by simp only [hi, decide_false]
    rw [hd] at C
    have HI := hide hi
    clear hi hd
    go_enter Tryz.func99, Tryz.ntmps99
    go_wp2_with fail
    refine C.out.mono ?_
    rintro e w1 ⟨rfl, rfl⟩
    go_wp2
    refine bodyPost_ret (v := .tuple #[.agg #[.int .i64 0, .int .i64 0, .string ⟨#[]⟩], .int .i64 7]) (by simp [results, Tryz.results99, go_sem]) rfl ?_
    exact ⟨7, ms, 0, 0, ⟨#[]⟩, rfl, .inl ⟨rfl, rfl, HI.out⟩, H1.out, Turn.of_below hb1 hlt⟩
end Go.Proofs.YtamcclcbmenjdaaGreatDoor

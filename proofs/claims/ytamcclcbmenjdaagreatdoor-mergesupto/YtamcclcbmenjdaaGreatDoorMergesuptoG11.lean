/- 'choirlaw.Merges', for any list of texts of bulk at most 1048576: Merge answers the document's frame or error; what is handed in stays. The second form's statement and its card: its only condition is the row's own bound on the argument's bulk. -/
import Derived.Test.YtamcclcbmenjdaaGreatDoorMergesuptoG10
import Derived.Test.YtamcclcbmenjdaaGreatDoorMergesuptoG1
import Derived.Deep.RegionHeld3
/- The unpacker: sample, takeWindow. -/
namespace Go.Proofs.YtamcclcbmenjdaaGreatDoor
open Go.RowKit Go.Lib

theorem wrap_toI (t : Nat) (h : t ≤ 18446744073709551615) : IntKind.i64.wrap (t : Int) = toI t := by
  rw [IntKind.wrap_i64, toI]; split <;> omega

set_option maxRecDepth 100000 in
set_option maxHeartbeats 400000 in
theorem sample_any (ub : Nat) (s : ByteArray) (u : US) (w : World) (H : UP w ub s u) (ht : u.t ≤ 18446744073709551615) :
    Calls Tryz.prog 150 #[.pointer (some ⟨ub, 0, none⟩)] w fun e w' => e = .returned (.agg #[.int .i64 (toI u.t), .int .u64 u.b]) ∧ Below w.heap.size w w' := by
  have c3 := H.c3
  have c5 := H.c5
  have hub := H.lt
  have hw := wrap_toI u.t ht
  clear H ht
  generalize u.t = t at *
  generalize u.b = b at *
  go_enter Tryz.func150, Tryz.ntmps150
  go_wp2
  go_region
  go_wp2
  exact bodyPost_ret (v := .agg #[.int .i64 (toI t), .int .u64 b]) (by simp [results, Tryz.results150, go_sem]) rfl ⟨rfl, ((Below.refl _ _).alloc (Nat.le_refl _) _).drew⟩

/-- Where the unpacker's block, and those ahead of it, are as they were. -/
theorem UP.low {w w' : World} {ub : Nat} {s : ByteArray} {u : US} (h : UP w ub s u) (hk : ∀ k, k ≤ ub → w'.heap[k]? = w.heap[k]?) : UP w' ub s u := by
  have hb := hk ub (Nat.le_refl _)
  have e : ∀ o, w'.cell? ⟨ub, o, none⟩ = w.cell? ⟨ub, o, none⟩ := fun o => World.cell?_of_block (a := ⟨ub, o, none⟩) hb
  have f : ∀ o, w'.frozen? ⟨ub, o, none⟩ = w.frozen? ⟨ub, o, none⟩ := fun o => World.frozen?_of_block (a := ⟨ub, o, none⟩) hb
  have hp := h.hp
  exact ⟨⟨(e 0).trans h.br.c0, (e 1).trans h.br.c1, (e 2).trans h.br.c2, (f 1).trans h.br.f1, (f 2).trans h.br.f2⟩, (e 3).trans h.c3, (e 4).trans h.c4, (e 5).trans h.c5, (e 6).trans h.c6, (e 7).trans h.c7,
    fun o => (f o).trans (h.fr o), h.tabs.kept (hk _ (by omega)) (hk _ (by omega)), hp⟩
theorem Rd.set_new {w w1 : World} {yb yo g o : Nat} (h : Rd w w1 yb yo) (hg : w.heap.size ≤ g) (x : Value) : Rd w (w1.setCell ⟨g, o, none⟩ x) yb yo :=
  ⟨h.os, h.tape, h.output, by simpa using h.size, fun i hi hy => (heap_setCell_other _ _ _ _ (by show i ≠ g; omega)).trans (h.block i hi hy)⟩
theorem Rd.set_own {w w1 : World} {yb yo o : Nat} (h : Rd w w1 yb yo) (x : Value) : Rd w (w1.setCell ⟨yb, o, none⟩ x) yb yo := h.trans (Rd.set x)

theorem UOk.win {s : ByteArray} {u : US} (h : UOk s u) : UOk s (winU s u) := by
  unfold winU
  simp only
  split
  · rename_i h1
    exact ⟨h.ht, h.hd, h.hb, h1, tk_pos _ _ _ _ (tk_pos _ _ _ _ h.hpos)⟩
  · exact ⟨h.ht, h.hd, h.hb, Nat.zero_le _, tk_pos _ _ _ _ (tk_pos _ _ _ _ h.hpos)⟩

set_option maxRecDepth 100000 in
set_option maxHeartbeats 400000 in
theorem takeWindow_any (ub : Nat) (s : ByteArray) (u : US) (w : World) (H : UP w ub s u) (hu : UOk s u) (hs : s.size ≤ 140737488355328) :
    Calls Tryz.prog 172 #[.pointer (some ⟨ub, 0, none⟩)] w fun e w' => e = .returned (.tuple #[]) ∧ UP w' ub s (winU s u) ∧ Rd w w' ub 0 := by
  have hub := H.lt
  have C1 := hide (take_any ub 0 u.pos u.st 5 s w H.br hs hu.hpos (by omega))
  have hx := tk_lt s u.pos u.st 5
  have hp1 := tk_pos s u.pos u.st 5 hu.hpos
  have HE : Hid (winU s u = if (tk s u.pos u.st 5).1 + ((tk s (tk s u.pos u.st 5).2.1 (tk s u.pos u.st 5).2.2 6).1 + 1) ≤ 64 then { u with pos := (tk s (tk s u.pos u.st 5).2.1 (tk s u.pos u.st 5).2.2 6).2.1, st := (tk s (tk s u.pos u.st 5).2.1 (tk s u.pos u.st 5).2.2 6).2.2, a := (tk s u.pos u.st 5).1, z := (tk s (tk s u.pos u.st 5).2.1 (tk s u.pos u.st 5).2.2 6).1 + 1 }
    else { u with pos := (tk s (tk s u.pos u.st 5).2.1 (tk s u.pos u.st 5).2.2 6).2.1, st := 1, a := 0, z := 0 }) := rfl
  generalize tk s u.pos u.st 5 = t1 at *
  obtain ⟨x, p1, q1⟩ := t1
  simp only at C1 hx hp1 HE
  have hy := tk_lt s p1 q1 6
  have HP := hide H
  clear H
  have hx5 : x < 32 := hx
  have HT2 := hide (fun (w1 : World) (hB : BR w1 ub 0 s p1 q1) => take_any ub 0 p1 q1 6 s w1 hB hs hp1 (by omega))
  generalize tk s p1 q1 6 = t2 at *
  obtain ⟨y, p2, q2⟩ := t2
  simp only at hy HE HT2
  have hy6 : y < 64 := hy
  clear hx hy hu hp1
  go_enter Tryz.func172, Tryz.ntmps172
  go_wp2_with fail
  refine C1.out.mono ?_
  rintro e w1 ⟨rfl, hB1, hR1⟩
  have HP1 := hide (HP.out.read hB1 hR1)
  have HR1 := hide (Rd.of_read hR1)
  have hs1 := hR1.size
  clear hB1 hR1 HP C1
  go_wp2_with fail
  have P2 := HP1.out.alloc (.cells #[.int .i64 x, .int .i64 0] 212)
  refine (HT2.out _ P2.br).mono ?_
  rintro e w2 ⟨rfl, hB2, hR2⟩
  have P3 := P2.read hB2 hR2
  have HR2 := hide ((HR1.out.alloc (.cells #[.int .i64 x, .int .i64 0] 212)).trans (Rd.of_read hR2))
  have hne : w1.heap.size ≠ ub := by omega
  have k0 : w2.cell? ⟨w1.heap.size, 0, none⟩ = some (.int .i64 x) := (World.cell?_of_block (a := ⟨w1.heap.size, 0, none⟩) (hR2.block _ hne)).trans (World.cell?_alloc_new _ _ _ 0)
  have k1 : w2.cell? ⟨w1.heap.size, 1, none⟩ = some (.int .i64 0) := (World.cell?_of_block (a := ⟨w1.heap.size, 1, none⟩) (hR2.block _ hne)).trans (World.cell?_alloc_new _ _ _ 1)
  have f1 : w2.frozen? ⟨w1.heap.size, 1, none⟩ = false := (World.frozen?_of_block (a := ⟨w1.heap.size, 1, none⟩) (hR2.block _ hne)).trans (World.frozen?_alloc_new _ _ _ 1)
  have f0 : w2.frozen? ⟨w1.heap.size, 0, none⟩ = false := (World.frozen?_of_block (a := ⟨w1.heap.size, 0, none⟩) (hR2.block _ hne)).trans (World.frozen?_alloc_new _ _ _ 0)
  have HP3 := hide P3
  have hg : w2.heap.size = w1.heap.size + 1 := by have := hR2.size; simp at this; omega
  have C3 : Hid (∀ W, Calls Tryz.prog 173 #[.agg #[.int .i64 x, .int .i64 ((y : Int) + 1)]] W fun e w' => e = .returned (.int .i64 (64 - (x : Int) - ((y : Int) + 1))) ∧ w' = W.alloc (.cells #[.int .i64 x, .int .i64 ((y : Int) + 1)] 212)) := fun W => by
    have h := behind_any x (y + 1) W (by omega) (by omega)
    have e1 : ((y + 1 : Nat) : Int) = (y : Int) + 1 := by omega
    rw [e1] at h; exact h
  clear P2 P3 hB2 hR2 HP1 HR1 HT2
  go_wp2_with fail
  refine (C3.out _).mono ?_
  rintro e w3 ⟨rfl, hw3⟩
  have P4 : UP w3 ub s { u with pos := p2, st := q2 } := HP3.out.low fun k hk => by
    rw [hw3, heap_alloc_old _ _ (by simp; omega), heap_setCell_other _ _ _ _ (by show k ≠ w1.heap.size; omega)]
  have HR3 : Hid (Rd w w3 ub 0) := by rw [hw3]; exact (HR2.out.set_new (by omega) _).alloc _
  have e3 : ∀ o, w3.cell? ⟨w1.heap.size, o, none⟩ = (w2.setCell ⟨w1.heap.size, 1, none⟩ (.int .i64 ((y : Int) + 1))).cell? ⟨w1.heap.size, o, none⟩ := fun o => by
    rw [hw3]; exact World.cell?_of_block (a := ⟨w1.heap.size, o, none⟩) (heap_alloc_old _ _ (by simp; omega))
  have g3 : ∀ o, w3.frozen? ⟨w1.heap.size, o, none⟩ = w2.frozen? ⟨w1.heap.size, o, none⟩ := fun o => by
    rw [hw3]
    refine (World.frozen?_of_block (a := ⟨w1.heap.size, o, none⟩) (heap_alloc_old _ _ (by simp; omega))).trans ?_
    rw [World.frozen?_setCell]
  have m0 : w3.cell? ⟨w1.heap.size, 0, none⟩ = some (.int .i64 x) := by
    rw [e3, World.cell?_setCell_other _ _ _ _ (fun e => absurd (congrArg Addr.off e) (by simp))]; exact k0
  have m1 : w3.cell? ⟨w1.heap.size, 1, none⟩ = some (.int .i64 ((y : Int) + 1)) := by
    rw [e3]; exact World.cell?_setCell_same _ _ _ k1
  have n0 := (g3 0).trans f0
  have n1 := (g3 1).trans f1
  have c2 := P4.br.c2
  have c6 := P4.c6
  have c7 := P4.c7
  have fr2 := P4.fr 2
  have fr6 := P4.fr 6
  have fr7 := P4.fr 7
  have HP4 := hide P4
  have hws : w.heap.size ≤ w1.heap.size := by omega
  clear P4 hw3 e3 g3 k0 k1 f0 f1 HP3 HR2 C3 hg hs1
  generalize w1.heap.size = g at *
  have hne2 : ¬ ub = g := fun e => hne e.symm
  by_cases hle : x + (y + 1) ≤ 64
  · have hdec : decide ((64 : Int) - x - ((y : Int) + 1) < 0) = false := by simp; omega
    have HE2 := hide (HE.out.trans (if_pos hle))
    clear HE hle
    go_wp2
    go_end0
    have h := (HP4.out.setA x).setZ (y + 1)
    have e1 : ((y + 1 : Nat) : Int) = (y : Int) + 1 := by omega
    rw [e1] at h
    exact ⟨rfl, by rw [HE2.out]; exact h, (HR3.out.set_own _).set_own _⟩
  · have hdec : decide ((64 : Int) - x - ((y : Int) + 1) < 0) = true := by simp; omega
    have HE2 := hide (HE.out.trans (if_neg hle))
    clear HE hle
    go_wp2
    go_end0
    have h := (((HP4.out.setSt 1).low (w' := ((w3.setCell ⟨ub, 2, none⟩ (.int .i64 1)).setCell ⟨g, 0, none⟩ (.int .i64 0)).setCell ⟨g, 1, none⟩ (.int .i64 0)) fun k hk => by
      rw [heap_setCell_other _ _ _ _ (by show k ≠ g; omega), heap_setCell_other _ _ _ _ (by show k ≠ g; omega)]; rfl).setA 0).setZ 0
    exact ⟨rfl, by rw [HE2.out]; exact h, (((((HR3.out.set_own _).set_new hws _).set_new hws _).set_own _).set_own _)⟩
end Go.Proofs.YtamcclcbmenjdaaGreatDoor

/- A region that draws its order, walked under a condition S on the world that its last operation (number L, which waits for all the others) may break: S is asked behind every operation but that one. Laws of regions; no program. -/
namespace Go.Proofs.YtamcclcbmenjdaaGreatDoor
open Go

section
variable {P : Program} {ops : Array Oper} {Q : Exit → Act → World → Prop} {md : Region.Mode} {S : World → Prop} {L : Nat}

/-- Does number k wait for number i, by way of others? -/
def waits (md : Region.Mode) (ops : Array Oper) : Nat → Nat → Nat → Bool
  | 0, k, i => k == i
  | n + 1, k, i => k == i || (match ops[k]? with | some o => o.after.toList.any fun e => Region.binds md e && waits md ops n e.on i | none => false)
/-- Whoever has come up has those that he waits for behind him. -/
def Shutd (md : Region.Mode) (ops : Array Oper) (listed : Array Bool) : Prop :=
  ∀ k o, ops[k]? = some o → listed.getD k false = true → ∀ e ∈ o.after, Region.binds md e = true → listed.getD e.on false = true
def shutB (md : Region.Mode) (ops : Array Oper) (listed : Array Bool) : Bool :=
  (List.range ops.size).all fun k => !(listed.getD k false) || (match ops[k]? with | some o => o.after.toList.all fun e => !(Region.binds md e) || listed.getD e.on false | none => true)
theorem shutd_of (md : Region.Mode) (ops : Array Oper) (listed : Array Bool) (h : shutB md ops listed = true) : Shutd md ops listed := by
  intro k o ho hk e he hb
  have hlt : k < ops.size := by
    rcases Nat.lt_or_ge k ops.size with h | h
    · exact h
    · rw [Array.getElem?_eq_none h] at ho; cases ho
  have h1 := List.all_eq_true.1 h k (List.mem_range.2 hlt)
  rw [hk, ho] at h1
  simp only [Bool.not_true, Bool.false_or] at h1
  have h2 := (List.all_eq_true.1 h1) e (Array.mem_toList_iff.2 he)
  rw [hb] at h2
  simpa using h2
theorem waits_listed {listed : Array Bool} (hc : Shutd md ops listed) : ∀ (n k i : Nat), waits md ops n k i = true → listed.getD k false = true → listed.getD i false = true
  | 0, k, i, h, hk => by rw [waits, beq_iff_eq] at h; rw [← h]; exact hk
  | n + 1, k, i, h, hk => by
    rw [waits, Bool.or_eq_true] at h
    rcases h with h | h
    · rw [beq_iff_eq] at h; rw [← h]; exact hk
    · cases ho : ops[k]? with
      | none => rw [ho] at h; cases h
      | some o =>
        rw [ho] at h
        simp only at h
        obtain ⟨e, he, h2⟩ := List.any_eq_true.1 h
        rw [Bool.and_eq_true] at h2
        exact waits_listed hc n e.on i h2.2 (hc k o ho hk e (Array.mem_toList_iff.1 he) h2.1)
/-- He who may come up has those that he waits for behind him. -/
theorem waits_ready {listed : Array Bool} (hc : Shutd md ops listed) {n k i : Nat} (h : waits md ops n k i = true) (hne : k ≠ i) (hr : k ∈ Region.ready md ops listed) : listed.getD i false = true := by
  obtain ⟨_, o, ho, hall⟩ := mem_ready.1 hr
  cases n with
  | zero => rw [waits, beq_iff_eq] at h; exact absurd h hne
  | succ n =>
    rw [waits, Bool.or_eq_true] at h
    rcases h with h | h
    · rw [beq_iff_eq] at h; exact absurd h hne
    · rw [ho] at h
      simp only at h
      obtain ⟨e, he, h2⟩ := List.any_eq_true.1 h
      rw [Bool.and_eq_true] at h2
      exact waits_listed hc n e.on i h2.2 (hall e (Array.mem_toList_iff.1 he) h2.1)
theorem Shutd.step {listed : Array Bool} (hc : Shutd md ops listed) {j : Nat} (hj : j ∈ Region.ready md ops listed) : Shutd md ops (listed.setIfInBounds j true) := by
  intro k o ho hk e he hb
  refine getD_set_true ?_
  by_cases hjk : j = k
  · subst hjk
    obtain ⟨_, o', ho', hall⟩ := mem_ready.1 hj
    rw [ho] at ho'; cases ho'
    exact hall e he hb
  · rw [getD_set_ne false hjk] at hk
    exact hc k o ho hk e he hb

/-- Whatever comes up next, and S holds behind whatever comes up but L. -/
def anyL (P : Program) (md : Region.Mode) (ops : Array Oper) (Q : Exit → Act → World → Prop) (S : World → Prop) (L : Nat) : Nat → Array Bool → Act → World → Prop
  | 0, listed, a, w => Region.ready md ops listed = [] ∧ Q .normal a w
  | n + 1, listed, a, w => (Region.ready md ops listed = [] → Q .normal a w) ∧
      ∀ i ∈ Region.ready md ops listed, wpOp P ops Q i (fun a' w' => (i ≠ L → S w') ∧ anyL P md ops Q S L n (listed.setIfInBounds i true) a' w') a w

theorem anyL_any : ∀ (n : Nat) (listed : Array Bool) (a : Act) (w : World), anyL P md ops Q S L n listed a w → wpAny P md ops Q n listed a w
  | 0, _, _, _, h => h
  | n + 1, _, _, _, h => ⟨h.1, fun i hi => wpOp_mono (fun a' w' h' => anyL_any n _ a' w' h'.2) (h.2 i hi)⟩
theorem region_anyL {id : Nat} {a : Act} {w : World} (L : Nat) (hm : P.follows .mixedOrders = true) (hS : S w.drew) (h : S w.drew → anyL P .any ops Q S L ops.size (Array.replicate ops.size false) a w.drew) : (Code.region id ops true).wp P Q a w :=
  wp_region_any hm (anyL_any _ _ _ _ (h hS))

theorem anyL_first {i : Nat} {oi : Oper} {v : Value} (hi : ops[i]? = some oi) (hsel : ∀ (j : Nat) (o : Oper) cs b, ops[j]? = some o → o.op ≠ .select cs b)
    (hQ : ∀ c a w, Q (.panic c) (a.put oi.dst v) w → Q (.panic c) a w) (q : Nat) (hw : waits md ops q L i = true) (hLi : L ≠ i) (n : Nat) :
    ∀ (listed : Array Bool) (a : Act) (w : World), Shutd md ops listed →
      (∀ j oj, ops[j]? = some oj → j ≠ i → listed.getD j true = false → (∀ e ∈ oj.after, Region.binds md e = true → e.on ≠ i) → oi.apart ops oj = true) →
      i ∈ Region.ready md ops listed → YieldsIf P ops S oi v a → S w →
      anyL P md ops Q S L n (listed.setIfInBounds i true) (a.put oi.dst v) w → anyL P md ops Q S L (n + 1) listed a w := by
  induction n with
  | zero =>
    intro listed a w _ _ hr hy hS H
    refine ⟨fun h => absurd hr (by rw [h]; exact List.not_mem_nil), fun j hj => ?_⟩
    by_cases hji : j = i
    · subst hji; exact hy.wpOp hi hS ⟨fun _ => hS, H⟩
    · exact absurd (ready_mono hj hji) (by rw [H.1]; exact List.not_mem_nil)
  | succ n ih =>
    intro listed a w hc hfree hr hy hS H
    refine ⟨fun h => absurd hr (by rw [h]; exact List.not_mem_nil), fun j hj => ?_⟩
    by_cases hji : j = i
    · subst hji; exact hy.wpOp hi hS ⟨fun _ => hS, H⟩
    · obtain ⟨hjun, oj, hoj, hall⟩ := mem_ready.1 hj
      have hlist : listed.getD i true = false := (mem_ready.1 hr).1
      have hgone : listed.getD i false ≠ true := fun h1 => by
        rcases Nat.lt_or_ge i listed.size with h' | h'
        · simp [h'] at hlist h1; rw [hlist] at h1; cases h1
        · simp [Array.getElem?_eq_none h'] at h1
      have hnot : ∀ e ∈ oj.after, Region.binds md e = true → e.on ≠ i := fun e he hb heq => hgone (heq ▸ hall e he hb)
      have hjL : j ≠ L := fun e => hgone (waits_ready hc hw hLi (e ▸ hj))
      have h2 := wpOp_putIf hoj (hfree j oj hoj hji hjun hnot) (fun cs b => hsel i oi cs b hi) (fun cs b => hsel j oj cs b hoj) hQ hy (H.2 j (ready_mono hj hji))
      refine wpOp_mono (fun a' w' h3 => ?_) h2
      have hcomm : (listed.setIfInBounds i true).setIfInBounds j true = (listed.setIfInBounds j true).setIfInBounds i true := Array.setIfInBounds_comm _ _ (Ne.symm hji)
      have hS' : S w' := h3.2.1 hjL
      refine ⟨fun _ => hS', ih _ a' w' (hc.step hj) ?_ (ready_mono hr (Ne.symm hji)) h3.1 hS' (by rw [← hcomm]; exact h3.2.2)⟩
      intro k ok hk hki hun hno
      refine hfree k ok hk hki ?_ hno
      by_cases hjk : j = k
      · subst hjk; exact hjun
      · rw [getD_set_ne true hjk] at hun; exact hun
/-- Take number i first. -/
theorem anyL_take (i : Nat) {oi : Oper} {v : Value} {n : Nat} {listed : Array Bool} {a : Act} {w : World} (hi : ops[i]? = some oi)
    (hs : Region.noSelect ops = true) (hf : Region.free md ops listed i = true) (hr : (Region.ready md ops listed).contains i = true) (hw : waits md ops ops.size L i = true) (hLi : (L == i) = false) (hc : shutB md ops listed = true)
    (hQ : ∀ c a w, Q (.panic c) (a.put oi.dst v) w → Q (.panic c) a w) (hy : YieldsIf P ops S oi v a) (hS : S w)
    (h : anyL P md ops Q S L n (listed.setIfInBounds i true) (a.put oi.dst v) w) : anyL P md ops Q S L (n + 1) listed a w :=
  anyL_first hi (Region.noSelect_spec hs) hQ _ hw (by simpa using hLi) n listed a w (shutd_of _ _ _ hc) (Region.free_spec hi hf) (by simpa using hr) hy hS h
/-- One alone may come up. -/
theorem anyL_one (i : Nat) {o : Oper} {n : Nat} {listed : Array Bool} {a : Act} {w : World} (hr : Region.ready md ops listed = [i]) (ho : ops[i]? = some o) (hLi : (L == i) = false)
    (h : ∀ K' : Act → World → Prop, Shut (∀ a w, S w → (S w → anyL P md ops Q S L n (listed.setIfInBounds i true) a w) → K' a w) → if Region.wanted o (yielded ops a.tmps) = true then Oper.wp P o a w K' Q else K' (a.put o.dst undef) w) :
    anyL P md ops Q S L (n + 1) listed a w := by
  refine ⟨fun h0 => (by rw [hr] at h0; cases h0), fun j hj => ?_⟩
  rw [hr, List.mem_singleton] at hj
  subst hj
  exact wpOp_step ho fun K' hK => h K' fun a w hS hW => hK a w ⟨fun _ => hS, hW hS⟩
/-- The last. -/
theorem anyL_last (i : Nat) {o : Oper} {n : Nat} {listed : Array Bool} {a : Act} {w : World} (hr : Region.ready md ops listed = [i]) (ho : ops[i]? = some o) (hLi : (L == i) = true) (hd : Region.ready md ops (listed.setIfInBounds i true) = [])
    (h : ∀ K' : Act → World → Prop, Shut (∀ a w, Q .normal a w → K' a w) → if Region.wanted o (yielded ops a.tmps) = true then Oper.wp P o a w K' Q else K' (a.put o.dst undef) w) :
    anyL P md ops Q S L (n + 1) listed a w := by
  refine ⟨fun h0 => (by rw [hr] at h0; cases h0), fun j hj => ?_⟩
  rw [hr, List.mem_singleton] at hj
  subst hj
  refine wpOp_step ho fun K' hK => h K' fun a w hq => hK a w ⟨fun hne => absurd (beq_iff_eq.1 hLi).symm hne, ?_⟩
  cases n with
  | zero => exact ⟨hd, hq⟩
  | succ n => exact ⟨fun _ => hq, by rw [hd]; intro _ h; cases h⟩
end
end Go.Proofs.YtamcclcbmenjdaaGreatDoor

/- The unpacker: takeTime. -/
namespace Go.Proofs.YtamcclcbmenjdaaGreatDoor
open Go.RowKit Go.Lib

theorem mk_le (s : ByteArray) (r pos st : Nat) : (mk s r pos st).1 ≤ r := by
  induction r generalizing pos st with
  | zero => simp [mk]
  | succ r ih => rw [mk]; split
                 · have := ih (tk s pos st 1).2.1 (tk s pos st 1).2.2; show _ + 1 ≤ _; omega
                 · exact Nat.zero_le _
theorem mk_pos (s : ByteArray) (r pos st : Nat) (hp : pos ≤ 8 * s.size) : (mk s r pos st).2.1 ≤ 8 * s.size := by
  induction r generalizing pos st with
  | zero => exact hp
  | succ r ih => rw [mk]; split
                 · exact ih _ _ (tk_pos s pos st 1 hp)
                 · exact tk_pos s pos st 1 hp
theorem UOk.time {s : ByteArray} {u : US} (h : UOk s u) : UOk s (timeU s u) :=
  ⟨add64_le _ _, add64_le _ _, h.hb, h.haz, tk_pos _ _ _ _ (mk_pos _ _ _ _ h.hpos)⟩

set_option linter.unusedSimpArgs false in
set_option maxRecDepth 100000 in
set_option maxHeartbeats 2000000 in
theorem takeTime_any (ub : Nat) (s : ByteArray) (u : US) (w : World) (H : UP w ub s u) (hu : UOk s u) (hs : s.size ≤ 140737488355328) :
    Calls Tryz.prog 151 #[.pointer (some ⟨ub, 0, none⟩)] w fun e w' => e = .returned (.tuple #[]) ∧ UP w' ub s (timeU s u) ∧ Rd w w' ub 0 := by
  have C1 := hide (takeMark_any ub 0 u.pos u.st 4 s w H.br hs hu.hpos (by omega))
  have hk := mk_le s 4 u.pos u.st
  have hkp := mk_pos s 4 u.pos u.st hu.hpos
  have HE : Hid (timeU s u = { u with pos := (tk s (mk s 4 u.pos u.st).2.1 (mk s 4 u.pos u.st).2.2 (stepWidth (mk s 4 u.pos u.st).1)).2.1, st := (tk s (mk s 4 u.pos u.st).2.1 (mk s 4 u.pos u.st).2.2 (stepWidth (mk s 4 u.pos u.st).1)).2.2, d := add64 u.d (sub64 (tk s (mk s 4 u.pos u.st).2.1 (mk s 4 u.pos u.st).2.2 (stepWidth (mk s 4 u.pos u.st).1)).1 (stepShift (mk s 4 u.pos u.st).1)), t := add64 u.t (add64 u.d (sub64 (tk s (mk s 4 u.pos u.st).2.1 (mk s 4 u.pos u.st).2.2 (stepWidth (mk s 4 u.pos u.st).1)).1 (stepShift (mk s 4 u.pos u.st).1))) }) := rfl
  generalize mk s 4 u.pos u.st = m at *
  obtain ⟨k, p1, q1⟩ := m
  simp only at C1 hk hkp HE
  have HP := hide H
  have hd := hu.hd
  clear H
  go_enter Tryz.func151, Tryz.ntmps151
  go_wp2_with fail
  refine C1.out.mono ?_
  rintro e w1 ⟨rfl, hB1, hR1⟩
  have P1 := HP.out.read hB1 hR1
  have hwd := stepWidth_le k
  have htw := P1.tabs.width hk
  have hts := P1.tabs.shift hk
  have c4 := P1.c4
  have hp := P1.hp
  have hub0 : ¬ ub = 0 := by omega
  have hk4 : (k : Int) < 5 := by omega
  have C2 := hide (take_any ub 0 p1 q1 (stepWidth k) s w1.drew (P1.drew).br hs hkp hwd)
  have hx64 := tk_lt s p1 q1 (stepWidth k)
  have hsb := stepShift_lt' k
  generalize tk s p1 q1 (stepWidth k) = x at *
  obtain ⟨x, p2, q2⟩ := x
  simp only at C2 hx64 HE
  have hsub := wrap_sub64 x (stepShift k) hsb
  have hadd := wrap_add64 u.d (sub64 x (stepShift k))
  have hadd2 := wrap_add64 u.t (add64 u.d (sub64 x (stepShift k)))
  generalize sub64 x (stepShift k) = e at *
  have hdl := add64_le u.d e
  have htl := add64_le u.t (add64 u.d e)
  generalize add64 u.d e = d' at *
  generalize add64 u.t d' = t' at *
  have HP1 := hide P1
  have HR1 := hide hR1
  clear P1 hB1 hR1 HP C1 hx64 hsb hkp hwd hu
  go_wp2_with fail
  refine region_anyL (S := fun w' => w'.cell? ⟨0, k * 2, none⟩ = some (.int .i64 (stepWidth k : Nat)) ∧ w'.cell? ⟨0, k * 2 + 1, none⟩ = some (.int .u64 (stepShift k : Nat)) ∧ w'.cell? ⟨ub, 4, none⟩ = some (.int .u64 (u.d : Nat))) 22 (by kernel_rfl) ⟨htw, hts, c4⟩ (fun hS => ?_)
  refine anyL_take 0 (oi := ?zo1) (v := ?zv1) ?zhi1 (by kernel_rfl) (by kernel_rfl) (by kernel_rfl) (by kernel_rfl) (by kernel_rfl) (by kernel_rfl) ?zq1 (Or.inl ⟨?zwa1, ?zy1⟩) hS ?zrest1
  case zhi1 => simp only [List.getElem?_toArray, List.getElem?_cons_zero, List.getElem?_cons_succ]; rfl
  case zwa1 => rfl
  case zy1 => intro wz hz; obtain ⟨z1, z2, z3⟩ := hz; go_simp <;> rfl
  case zq1 => exact fun _ _ _ h => h
  simp only [Act.put, List.setIfInBounds_toArray, List.set_cons_zero, List.set_cons_succ]
  refine anyL_take 1 (oi := ?zo2) (v := ?zv2) ?zhi2 (by kernel_rfl) (by kernel_rfl) (by kernel_rfl) (by kernel_rfl) (by kernel_rfl) (by kernel_rfl) ?zq2 (Or.inl ⟨?zwa2, ?zy2⟩) hS ?zrest2
  case zhi2 => simp only [List.getElem?_toArray, List.getElem?_cons_zero, List.getElem?_cons_succ]; rfl
  case zwa2 => rfl
  case zy2 => intro wz hz; obtain ⟨z1, z2, z3⟩ := hz; go_simp <;> rfl
  case zq2 => exact fun _ _ _ h => h
  simp only [Act.put, List.setIfInBounds_toArray, List.set_cons_zero, List.set_cons_succ]
  refine anyL_take 2 (oi := ?zo3) (v := ?zv3) ?zhi3 (by kernel_rfl) (by kernel_rfl) (by kernel_rfl) (by kernel_rfl) (by kernel_rfl) (by kernel_rfl) ?zq3 (Or.inl ⟨?zwa3, ?zy3⟩) hS ?zrest3
  case zhi3 => simp only [List.getElem?_toArray, List.getElem?_cons_zero, List.getElem?_cons_succ]; rfl
  case zwa3 => rfl
  case zy3 => intro wz hz; obtain ⟨z1, z2, z3⟩ := hz; go_simp <;> rfl
  case zq3 => exact fun _ _ _ h => h
  simp only [Act.put, List.setIfInBounds_toArray, List.set_cons_zero, List.set_cons_succ]
  refine anyL_take 3 (oi := ?zo4) (v := ?zv4) ?zhi4 (by kernel_rfl) (by kernel_rfl) (by kernel_rfl) (by kernel_rfl) (by kernel_rfl) (by kernel_rfl) ?zq4 (Or.inl ⟨?zwa4, ?zy4⟩) hS ?zrest4
  case zhi4 => simp only [List.getElem?_toArray, List.getElem?_cons_zero, List.getElem?_cons_succ]; rfl
  case zwa4 => rfl
  case zy4 => intro wz hz; obtain ⟨z1, z2, z3⟩ := hz; go_simp <;> rfl
  case zq4 => exact fun _ _ _ h => h
  simp only [Act.put, List.setIfInBounds_toArray, List.set_cons_zero, List.set_cons_succ]
  refine anyL_take 4 (oi := ?zo5) (v := ?zv5) ?zhi5 (by kernel_rfl) (by kernel_rfl) (by kernel_rfl) (by kernel_rfl) (by kernel_rfl) (by kernel_rfl) ?zq5 (Or.inl ⟨?zwa5, ?zy5⟩) hS ?zrest5
  case zhi5 => simp only [List.getElem?_toArray, List.getElem?_cons_zero, List.getElem?_cons_succ]; rfl
  case zwa5 => rfl
  case zy5 => intro wz hz; obtain ⟨z1, z2, z3⟩ := hz; go_simp <;> rfl
  case zq5 => exact fun _ _ _ h => h
  simp only [Act.put, List.setIfInBounds_toArray, List.set_cons_zero, List.set_cons_succ]
  refine anyL_take 5 (oi := ?zo6) (v := ?zv6) ?zhi6 (by kernel_rfl) (by kernel_rfl) (by kernel_rfl) (by kernel_rfl) (by kernel_rfl) (by kernel_rfl) ?zq6 (Or.inl ⟨?zwa6, ?zy6⟩) hS ?zrest6
  case zhi6 => simp only [List.getElem?_toArray, List.getElem?_cons_zero, List.getElem?_cons_succ]; rfl
  case zwa6 => rfl
  case zy6 => intro wz hz; obtain ⟨z1, z2, z3⟩ := hz; go_simp <;> rfl
  case zq6 => exact fun _ _ _ h => h
  simp only [Act.put, List.setIfInBounds_toArray, List.set_cons_zero, List.set_cons_succ]
  refine anyL_take 6 (oi := ?zo7) (v := ?zv7) ?zhi7 (by kernel_rfl) (by kernel_rfl) (by kernel_rfl) (by kernel_rfl) (by kernel_rfl) (by kernel_rfl) ?zq7 (Or.inl ⟨?zwa7, ?zy7⟩) hS ?zrest7
  case zhi7 => simp only [List.getElem?_toArray, List.getElem?_cons_zero, List.getElem?_cons_succ]; rfl
  case zwa7 => rfl
  case zy7 => intro wz hz; obtain ⟨z1, z2, z3⟩ := hz; go_simp <;> rfl
  case zq7 => exact fun _ _ _ h => h
  simp only [Act.put, List.setIfInBounds_toArray, List.set_cons_zero, List.set_cons_succ]
  refine anyL_take 7 (oi := ?zo8) (v := ?zv8) ?zhi8 (by kernel_rfl) (by kernel_rfl) (by kernel_rfl) (by kernel_rfl) (by kernel_rfl) (by kernel_rfl) ?zq8 (Or.inl ⟨?zwa8, ?zy8⟩) hS ?zrest8
  case zhi8 => simp only [List.getElem?_toArray, List.getElem?_cons_zero, List.getElem?_cons_succ]; rfl
  case zwa8 => rfl
  case zy8 => intro wz hz; obtain ⟨z1, z2, z3⟩ := hz; go_simp <;> rfl
  case zq8 => exact fun _ _ _ h => h
  simp only [Act.put, List.setIfInBounds_toArray, List.set_cons_zero, List.set_cons_succ]
  refine anyL_take 8 (oi := ?zo9) (v := ?zv9) ?zhi9 (by kernel_rfl) (by kernel_rfl) (by kernel_rfl) (by kernel_rfl) (by kernel_rfl) (by kernel_rfl) ?zq9 (Or.inl ⟨?zwa9, ?zy9⟩) hS ?zrest9
  case zhi9 => simp only [List.getElem?_toArray, List.getElem?_cons_zero, List.getElem?_cons_succ]; rfl
  case zwa9 => rfl
  case zy9 => intro wz hz; obtain ⟨z1, z2, z3⟩ := hz; go_simp <;> rfl
  case zq9 => exact fun _ _ _ h => h
  simp only [Act.put, List.setIfInBounds_toArray, List.set_cons_zero, List.set_cons_succ]
  refine anyL_take 9 (oi := ?zo10) (v := ?zv10) ?zhi10 (by kernel_rfl) (by kernel_rfl) (by kernel_rfl) (by kernel_rfl) (by kernel_rfl) (by kernel_rfl) ?zq10 (Or.inl ⟨?zwa10, ?zy10⟩) hS ?zrest10
  case zhi10 => simp only [List.getElem?_toArray, List.getElem?_cons_zero, List.getElem?_cons_succ]; rfl
  case zwa10 => rfl
  case zy10 => intro wz hz; obtain ⟨z1, z2, z3⟩ := hz; go_simp <;> rfl
  case zq10 => exact fun _ _ _ h => h
  simp only [Act.put, List.setIfInBounds_toArray, List.set_cons_zero, List.set_cons_succ]
  refine anyL_take 10 (oi := ?zo11) (v := ?zv11) ?zhi11 (by kernel_rfl) (by kernel_rfl) (by kernel_rfl) (by kernel_rfl) (by kernel_rfl) (by kernel_rfl) ?zq11 (Or.inl ⟨?zwa11, ?zy11⟩) hS ?zrest11
  case zhi11 => simp only [List.getElem?_toArray, List.getElem?_cons_zero, List.getElem?_cons_succ]; rfl
  case zwa11 => rfl
  case zy11 => intro wz hz; obtain ⟨z1, z2, z3⟩ := hz; go_simp <;> rfl
  case zq11 => exact fun _ _ _ h => h
  simp only [Act.put, List.setIfInBounds_toArray, List.set_cons_zero, List.set_cons_succ]
  refine anyL_take 11 (oi := ?zo12) (v := ?zv12) ?zhi12 (by kernel_rfl) (by kernel_rfl) (by kernel_rfl) (by kernel_rfl) (by kernel_rfl) (by kernel_rfl) ?zq12 (Or.inl ⟨?zwa12, ?zy12⟩) hS ?zrest12
  case zhi12 => simp only [List.getElem?_toArray, List.getElem?_cons_zero, List.getElem?_cons_succ]; rfl
  case zwa12 => rfl
  case zy12 => intro wz hz; obtain ⟨z1, z2, z3⟩ := hz; go_simp <;> rfl
  case zq12 => exact fun _ _ _ h => h
  simp only [Act.put, List.setIfInBounds_toArray, List.set_cons_zero, List.set_cons_succ]
  refine anyL_take 13 (oi := ?zo13) (v := ?zv13) ?zhi13 (by kernel_rfl) (by kernel_rfl) (by kernel_rfl) (by kernel_rfl) (by kernel_rfl) (by kernel_rfl) ?zq13 (Or.inl ⟨?zwa13, ?zy13⟩) hS ?zrest13
  case zhi13 => simp only [List.getElem?_toArray, List.getElem?_cons_zero, List.getElem?_cons_succ]; rfl
  case zwa13 => rfl
  case zy13 => intro wz hz; obtain ⟨z1, z2, z3⟩ := hz; go_simp <;> rfl
  case zq13 => exact fun _ _ _ h => h
  simp only [Act.put, List.setIfInBounds_toArray, List.set_cons_zero, List.set_cons_succ]
  refine anyL_take 14 (oi := ?zo14) (v := ?zv14) ?zhi14 (by kernel_rfl) (by kernel_rfl) (by kernel_rfl) (by kernel_rfl) (by kernel_rfl) (by kernel_rfl) ?zq14 (Or.inl ⟨?zwa14, ?zy14⟩) hS ?zrest14
  case zhi14 => simp only [List.getElem?_toArray, List.getElem?_cons_zero, List.getElem?_cons_succ]; rfl
  case zwa14 => rfl
  case zy14 => intro wz hz; obtain ⟨z1, z2, z3⟩ := hz; go_simp <;> rfl
  case zq14 => exact fun _ _ _ h => h
  simp only [Act.put, List.setIfInBounds_toArray, List.set_cons_zero, List.set_cons_succ]
  refine anyL_take 15 (oi := ?zo15) (v := ?zv15) ?zhi15 (by kernel_rfl) (by kernel_rfl) (by kernel_rfl) (by kernel_rfl) (by kernel_rfl) (by kernel_rfl) ?zq15 (Or.inl ⟨?zwa15, ?zy15⟩) hS ?zrest15
  case zhi15 => simp only [List.getElem?_toArray, List.getElem?_cons_zero, List.getElem?_cons_succ]; rfl
  case zwa15 => rfl
  case zy15 => intro wz hz; obtain ⟨z1, z2, z3⟩ := hz; go_simp <;> rfl
  case zq15 => exact fun _ _ _ h => h
  simp only [Act.put, List.setIfInBounds_toArray, List.set_cons_zero, List.set_cons_succ]
  refine anyL_take 16 (oi := ?zo16) (v := ?zv16) ?zhi16 (by kernel_rfl) (by kernel_rfl) (by kernel_rfl) (by kernel_rfl) (by kernel_rfl) (by kernel_rfl) ?zq16 (Or.inl ⟨?zwa16, ?zy16⟩) hS ?zrest16
  case zhi16 => simp only [List.getElem?_toArray, List.getElem?_cons_zero, List.getElem?_cons_succ]; rfl
  case zwa16 => rfl
  case zy16 => intro wz hz; obtain ⟨z1, z2, z3⟩ := hz; go_simp <;> rfl
  case zq16 => exact fun _ _ _ h => h
  simp only [Act.put, List.setIfInBounds_toArray, List.set_cons_zero, List.set_cons_succ]
  refine anyL_one 12 (o := ?zo17) (by kernel_rfl) ?zhi17 (by kernel_rfl) ?zst17
  case zhi17 => simp only [List.getElem?_toArray, List.getElem?_cons_zero, List.getElem?_cons_succ]; rfl
  intro K hK
  go_simp
  refine C2.out.mono ?_
  rintro r w2 ⟨rfl, hB2, hR2⟩
  have P2 := HP1.out.drew.read hB2 hR2
  have HR2 := hide ((Rd.of_read HR1.out).trans ((Rd.of_read ((Read.refl w1 ub 0).drewN 1)).trans (Rd.of_read hR2)))
  have e3 := P2.c3
  have e4 := P2.c4
  have f3 := P2.fr 3
  have f4 := P2.fr 4
  have HP2 := hide P2
  refine hK.out _ _ ⟨P2.tabs.width hk, P2.tabs.shift hk, e4⟩ (fun hS2 => ?_)
  clear hK K hS P2 hB2 hR2 HP1 HR1 C2 htw hts c4
  refine anyL_take 17 (oi := ?zo18) (v := ?zv18) ?zhi18 (by kernel_rfl) (by kernel_rfl) (by kernel_rfl) (by kernel_rfl) (by kernel_rfl) (by kernel_rfl) ?zq18 (Or.inl ⟨?zwa18, ?zy18⟩) hS2 ?zrest18
  case zhi18 => simp only [List.getElem?_toArray, List.getElem?_cons_zero, List.getElem?_cons_succ]; rfl
  case zwa18 => rfl
  case zy18 => intro wz hz; obtain ⟨z1, z2, z3⟩ := hz; go_simp <;> rfl
  case zq18 => exact fun _ _ _ h => h
  simp only [Act.put, List.setIfInBounds_toArray, List.set_cons_zero, List.set_cons_succ]
  refine anyL_take 18 (oi := ?zo19) (v := ?zv19) ?zhi19 (by kernel_rfl) (by kernel_rfl) (by kernel_rfl) (by kernel_rfl) (by kernel_rfl) (by kernel_rfl) ?zq19 (Or.inl ⟨?zwa19, ?zy19⟩) hS2 ?zrest19
  case zhi19 => simp only [List.getElem?_toArray, List.getElem?_cons_zero, List.getElem?_cons_succ]; rfl
  case zwa19 => rfl
  case zy19 => intro wz hz; obtain ⟨z1, z2, z3⟩ := hz; go_simp <;> rfl
  case zq19 => exact fun _ _ _ h => h
  simp only [Act.put, List.setIfInBounds_toArray, List.set_cons_zero, List.set_cons_succ]
  refine anyL_take 19 (oi := ?zo20) (v := ?zv20) ?zhi20 (by kernel_rfl) (by kernel_rfl) (by kernel_rfl) (by kernel_rfl) (by kernel_rfl) (by kernel_rfl) ?zq20 (Or.inl ⟨?zwa20, ?zy20⟩) hS2 ?zrest20
  case zhi20 => simp only [List.getElem?_toArray, List.getElem?_cons_zero, List.getElem?_cons_succ]; rfl
  case zwa20 => rfl
  case zy20 => intro wz hz; obtain ⟨z1, z2, z3⟩ := hz; go_simp <;> rfl
  case zq20 => exact fun _ _ _ h => h
  simp only [Act.put, List.setIfInBounds_toArray, List.set_cons_zero, List.set_cons_succ]
  refine anyL_take 20 (oi := ?zo21) (v := ?zv21) ?zhi21 (by kernel_rfl) (by kernel_rfl) (by kernel_rfl) (by kernel_rfl) (by kernel_rfl) (by kernel_rfl) ?zq21 (Or.inl ⟨?zwa21, ?zy21⟩) hS2 ?zrest21
  case zhi21 => simp only [List.getElem?_toArray, List.getElem?_cons_zero, List.getElem?_cons_succ]; rfl
  case zwa21 => rfl
  case zy21 => intro wz hz; obtain ⟨z1, z2, z3⟩ := hz; go_simp <;> rfl
  case zq21 => exact fun _ _ _ h => h
  simp only [Act.put, List.setIfInBounds_toArray, List.set_cons_zero, List.set_cons_succ]
  refine anyL_take 21 (oi := ?zo22) (v := ?zv22) ?zhi22 (by kernel_rfl) (by kernel_rfl) (by kernel_rfl) (by kernel_rfl) (by kernel_rfl) (by kernel_rfl) ?zq22 (Or.inl ⟨?zwa22, ?zy22⟩) hS2 ?zrest22
  case zhi22 => simp only [List.getElem?_toArray, List.getElem?_cons_zero, List.getElem?_cons_succ]; rfl
  case zwa22 => rfl
  case zy22 => intro wz hz; obtain ⟨z1, z2, z3⟩ := hz; go_simp <;> rfl
  case zq22 => exact fun _ _ _ h => h
  simp only [Act.put, List.setIfInBounds_toArray, List.set_cons_zero, List.set_cons_succ]
  refine anyL_last 22 (o := ?zo23) (by kernel_rfl) ?zhi23 (by kernel_rfl) (by kernel_rfl) ?zst23
  case zhi23 => simp only [List.getElem?_toArray, List.getElem?_cons_zero, List.getElem?_cons_succ]; rfl
  intro K hK
  go_simp
  refine hK.out _ _ ?_
  clear hK K hS2
  have HP3 := hide ((HP2.out.setD d').setT t')
  have HR3 := hide (HR2.out.set_own (o := 4) (.int .u64 d'))
  clear HP2 HR2 hsub hadd hdl hk4
  go_wp2
  as_aux_lemma =>
    go_region
    go_wp2
    go_end0
    exact ⟨rfl, by rw [HE.out]; exact HP3.out.drew, (HR3.out.set_own _).below (below_drewN (Below.refl _ _) 1)⟩
end Go.Proofs.YtamcclcbmenjdaaGreatDoor

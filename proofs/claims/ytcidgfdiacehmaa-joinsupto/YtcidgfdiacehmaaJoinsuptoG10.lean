/- 'choirlaw.Joins', for any two lists of series of bulk at most 1048576: Join answers the document's join or error, either way round; what is handed in stays, what comes out is its owner's. The second form's statement: its only condition is the row's own bound on the arguments' bulk. -/
import Derived.Test.YtcidgfdiacehmaaJoinsuptoG8
import Derived.Test.YtcidgfdiacehmaaJoinsuptoG1
import Derived.Deep.RegionHeld3
/- The reference: less, Order, Within. -/
namespace Go.Proofs.Ytcidgfdiacehmaa
open Go.RowKit Go.Lib

theorem bl_cmp : ∀ (x y : List UInt8), (Op.bytesLess x y = true ↔ Lib.compareBytes x y = -1) ∧ (x = y ↔ Lib.compareBytes x y = 0) ∧ (Lib.compareBytes x y = -1 ∨ Lib.compareBytes x y = 0 ∨ Lib.compareBytes x y = 1) ∧ Lib.compareBytes y x = - Lib.compareBytes x y
  | [], [] => by simp [Op.bytesLess, Lib.compareBytes]
  | [], _ :: _ => by simp [Op.bytesLess, Lib.compareBytes]
  | _ :: _, [] => by simp [Op.bytesLess, Lib.compareBytes]
  | a :: r, b :: q => by
    have ih := bl_cmp r q
    by_cases hab : a = b
    · subst hab
      simpa [Op.bytesLess, Lib.compareBytes] using ih
    · by_cases hlt : a < b
      · have hlt2 : ¬ b < a := fun h => absurd (UInt8.lt_trans hlt h) (UInt8.lt_irrefl _)
        simp [Op.bytesLess, Lib.compareBytes, hab, hlt, hlt2]
      · have hlt2 : b < a := by rcases UInt8.lt_or_lt_of_ne hab with h | h; exact absurd h hlt; exact h
        simp [Op.bytesLess, Lib.compareBytes, hab, hlt, hlt2]

/-- Is a label ahead of another? -/
def lessLab (x y : Lab) : Bool := Op.bytesLess x.1.toList y.1.toList || (x.1.toList == y.1.toList && Op.bytesLess x.2.toList y.2.toList)

theorem toList_data (a : ByteArray) : a.toList = a.data.toList := ByteArray.toList_eq a
theorem lessLab_cmp (x y : Lab) : (lessLab x y = true ↔ cmpLab x y = -1) ∧ (lessLab y x = true ↔ cmpLab x y = 1) ∧ (cmpLab x y = -1 ∨ cmpLab x y = 0 ∨ cmpLab x y = 1) := by
  have h1 := bl_cmp x.1.data.toList y.1.data.toList
  have h2 := bl_cmp x.2.data.toList y.2.data.toList
  have h3 := bl_cmp y.1.data.toList x.1.data.toList
  have h4 := bl_cmp y.2.data.toList x.2.data.toList
  unfold lessLab cmpLab cmpB
  simp only [toList_data, Bool.or_eq_true, Bool.and_eq_true, beq_iff_eq, h1.1, h2.1, h3.1, h4.1]
  rw [h1.2.1, h3.2.1, h1.2.2.2, h2.2.2.2]
  have a1 := h1.2.2.1
  have a2 := h2.2.2.1
  generalize Lib.compareBytes x.1.data.toList y.1.data.toList = p at *
  generalize Lib.compareBytes x.2.data.toList y.2.data.toList = q at *
  clear h1 h2 h3 h4
  split <;> omega

set_option maxRecDepth 100000 in
set_option maxHeartbeats 400000 in
theorem less_any (x y : Lab) (w : World) :
    Calls Try.prog 37 #[.agg #[.string x.1, .string x.2], .agg #[.string y.1, .string y.2]] w fun e w' => e = .returned (.bool (lessLab x y)) ∧ Below w.heap.size w w' := by
  obtain ⟨a, b⟩ := x
  obtain ⟨c, d⟩ := y
  have HL : Hid (lessLab (a, b) (c, d) = (Op.bytesLess a.toList c.toList || (a.toList == c.toList && Op.bytesLess b.toList d.toList))) := rfl
  cases h1 : Op.bytesLess a.toList c.toList with
  | true =>
    go_enter Try.func37, Try.ntmps37
    go_wp2
    go_ret
    exact ⟨by rw [HL.out, h1]; rfl, (((Below.refl _ _).alloc (Nat.le_refl _) _).alloc (by simp) _)⟩
  | false =>
    cases h2 : a.toList == c.toList with
    | true =>
      go_enter Try.func37, Try.ntmps37
      go_wp2
      go_ret
      exact ⟨by rw [HL.out, h1, h2]; rfl, (((Below.refl _ _).alloc (Nat.le_refl _) _).alloc (by simp) _)⟩
    | false =>
      go_enter Try.func37, Try.ntmps37
      go_wp2
      go_ret
      exact ⟨by rw [HL.out, h1, h2]; rfl, (((Below.refl _ _).alloc (Nat.le_refl _) _).alloc (by simp) _)⟩

set_option maxRecDepth 100000 in
set_option maxHeartbeats 400000 in
theorem refOrder_any (B : Nat) (u v : Value) (l m : List Lab) (w : World) (hl : LabelsAt w B u l) (hm : LabelsAt w B v m) (hB : B ≤ w.heap.size) (hll : l.length ≤ 10000000000000) :
    Calls Try.prog 29 #[u, v] w fun e w' => e = .returned (.int .i64 (cmpLabs l m)) ∧ Below w.heap.size w w' := by
  obtain ⟨la, lc, rfl, _⟩ := id hl
  obtain ⟨ma, mc, rfl, _⟩ := id hm
  have HL := hide hl
  have HM := hide hm
  clear hl hm
  go_enter Try.func29, Try.ntmps29
  go_wp2
  go_loopw [5, 6, 7] (fun i _ _ wr => ∃ k : Nat, k ≤ l.length ∧ k ≤ m.length ∧ i = .int .i64 k ∧ Below w.heap.size w wr ∧ Hid (cmpLabs l m = cmpLabs (l.drop k) (m.drop k))) (fun i _ _ _ => l.length - (intOf i).toNat)
  case atStart => exact ⟨0, Nat.zero_le _, Nat.zero_le _, rfl, Below.refl _ _, rfl⟩
  case round =>
    obtain ⟨k, hk, hkm, rfl, hbl, HE⟩ := hrel
    have hsz := hbl.size
    have HBl := hide hbl
    clear hbl
    by_cases hlt : k < l.length
    · by_cases hltm : k < m.length
      · obtain ⟨x, hx⟩ : ∃ x, l[k]? = some x := ⟨_, List.getElem?_eq_getElem hlt⟩
        obtain ⟨b, o, rfl, hb, c1, c2⟩ := (HL.out.below HBl.out hB).get hx
        have hbw : b < wr.heap.size := by omega
        obtain ⟨y, hy⟩ : ∃ y, m[k]? = some y := ⟨_, List.getElem?_eq_getElem hltm⟩
        obtain ⟨b', o', rfl, hb', d1, d2⟩ := (HM.out.below HBl.out hB).get hy
        have hbw' : b' < wr.heap.size := by omega
        have HD := hide (cmpLabs_drop hx hy)
        have HC := hide (lessLab_cmp x y)
        obtain ⟨x1, x2⟩ := x
        obtain ⟨y1, y2⟩ := y
        have C1 := hide (less_any (x1, x2) (y1, y2))
        have C2 := hide (less_any (y1, y2) (x1, x2))
        clear hx hy
        have hsz2 := hsz
        generalize hq : cmpLab (x1, x2) (y1, y2) = q at *
        generalize hp1 : lessLab (x1, x2) (y1, y2) = p1 at *
        generalize hp2 : lessLab (y1, y2) (x1, x2) = p2 at *
        clear hq hp1 hp2
        go_wp2
        as_aux_lemma =>
          go_region_held3 (fun w' => w'.cell? ⟨b, o + k * 2, none⟩ = some (.string x1) ∧ w'.cell? ⟨b, o + k * 2 + 1, none⟩ = some (.string x2) ∧ w'.cell? ⟨b', o' + k * 2, none⟩ = some (.string y1) ∧ w'.cell? ⟨b', o' + k * 2 + 1, none⟩ = some (.string y2)) (go_keep) (first | (go_at_call 37; refine (C1.out _).mono ?_; rintro e w2 ⟨rfl, hb2⟩; have e1 := (Below.cell hb2 (p := ⟨b, o + k * 2, none⟩) (by show b < wr.heap.size; omega)).trans c1; have e2 := (Below.cell hb2 (p := ⟨b, o + k * 2 + 1, none⟩) (by show b < wr.heap.size; omega)).trans c2; have e3 := (Below.cell hb2 (p := ⟨b', o' + k * 2, none⟩) (by show b' < wr.heap.size; omega)).trans d1; have e4 := (Below.cell hb2 (p := ⟨b', o' + k * 2 + 1, none⟩) (by show b' < wr.heap.size; omega)).trans d2))
          all_goals
            have HB2 := hide (HBl.out.drew.trans (hb2.mono (by show w.heap.size ≤ wr.heap.size; omega)))
            have hs2 : wr.heap.size ≤ w2.heap.size := hb2.size
            clear hb2 c1 c2 d1 d2 HBl
            go_wp2
            as_aux_lemma =>
              go_region_held3 (fun w' => w'.cell? ⟨b, o + k * 2, none⟩ = some (.string x1) ∧ w'.cell? ⟨b, o + k * 2 + 1, none⟩ = some (.string x2) ∧ w'.cell? ⟨b', o' + k * 2, none⟩ = some (.string y1) ∧ w'.cell? ⟨b', o' + k * 2 + 1, none⟩ = some (.string y2)) (go_keep) (first | (go_at_call 37; refine (C2.out _).mono ?_; rintro e w3 ⟨rfl, hb3⟩; have g1 := (Below.cell hb3 (p := ⟨b, o + k * 2, none⟩) (by show b < w2.heap.size; omega)).trans e1; have g2 := (Below.cell hb3 (p := ⟨b, o + k * 2 + 1, none⟩) (by show b < w2.heap.size; omega)).trans e2; have g3 := (Below.cell hb3 (p := ⟨b', o' + k * 2, none⟩) (by show b' < w2.heap.size; omega)).trans e3; have g4 := (Below.cell hb3 (p := ⟨b', o' + k * 2 + 1, none⟩) (by show b' < w2.heap.size; omega)).trans e4))
              all_goals
                have HB3 := hide (HB2.out.drew.trans (hb3.mono (by show w.heap.size ≤ w2.heap.size; omega)))
                clear hb3 e1 e2 e3 e4 g1 g2 g3 g4 HB2
                cases p1 with
                | true =>
                  have hq : q = -1 := HC.out.1.1 rfl
                  have HQ : Hid (cmpLabs l m = -1) := by show _ = _; rw [HE.out, HD.out, hq]; rfl
                  clear hq HC HD HE
                  go_wp2
                  go_ret
                  exact ⟨ret_int HQ.out.symm, HB3.out⟩
                | false =>
                  cases p2 with
                  | true =>
                    have hq : q = 1 := HC.out.2.1.1 rfl
                    have HQ : Hid (cmpLabs l m = 1) := by show _ = _; rw [HE.out, HD.out, hq]; rfl
                    clear hq HC HD HE
                    go_wp2
                    go_ret
                    exact ⟨ret_int HQ.out.symm, HB3.out⟩
                  | false =>
                    have hq : q = 0 := by
                      rcases HC.out.2.2 with h | h | h
                      · cases HC.out.1.2 h
                      · exact h
                      · cases HC.out.2.1.2 h
                    have HQ : Hid (cmpLabs l m = cmpLabs (l.drop (k + 1)) (m.drop (k + 1))) := by show _ = _; rw [HE.out, HD.out, hq]; rfl
                    clear hq HC HD HE
                    go_wp2
                    go_roundw
                    case rel => exact ⟨k + 1, by omega, by omega, by go_num, HB3.out, HQ.out⟩
                    case measure => simp [intOf]; omega
      · obtain ⟨x, hx⟩ : ∃ x, l[k]? = some x := ⟨_, List.getElem?_eq_getElem hlt⟩
        have hend : cmpLabs l m = 1 := HE.out.trans (cmpLabs_end1 (by omega) hx)
        have HEnd := hide hend
        clear hx hend HE
        have h1 : ¬ l.length < m.length := by omega
        have h2 : m.length < l.length := by omega
        go_wp2
        go_ret
        exact ⟨ret_int HEnd.out.symm, HBl.out⟩
    · have hend : cmpLabs l m = if l.length < m.length then -1 else 0 := HE.out.trans (cmpLabs_end2 (by omega) (by omega))
      have HEnd := hide hend
      clear hend
      by_cases hlm2 : l.length < m.length
      · rw [if_pos hlm2] at HEnd
        go_wp2
        go_ret
        exact ⟨ret_int HEnd.out.symm, HBl.out⟩
      · rw [if_neg hlm2] at HEnd
        have h2 : ¬ m.length < l.length := by omega
        go_wp2
        go_ret
        exact ⟨ret_int HEnd.out.symm, HBl.out⟩

set_option maxRecDepth 100000 in
set_option maxHeartbeats 400000 in
theorem refWithin_any (B : Nat) (v : Value) (bs : List Ser) (w : World) (hS : BatchAt w B v bs) (hB : B ≤ w.heap.size) (hll : bs.length ≤ 10000000000000) :
    Calls Try.prog 28 #[v] w fun e w' => BoolOf e (LimitsOk bs) ∧ Below w.heap.size w w' := by
  obtain ⟨a, c, rfl, _⟩ := id hS
  have HS := hide hS
  clear hS
  by_cases h8 : 8 < bs.length
  · go_enter Try.func28, Try.ntmps28
    go_wp2
    go_ret
    exact ⟨BoolOf.no (fun h => by have := h.2; omega), Below.refl _ _⟩
  · go_enter Try.func28, Try.ntmps28
    go_wp2
    go_loopw [3] (fun i wr => ∃ k : Nat, k ≤ bs.length ∧ i = .int .i64 k ∧ Below w.heap.size w wr ∧ Hid (LimTo bs k)) (fun i _ => bs.length - (intOf i).toNat)
    case atStart => exact ⟨0, Nat.zero_le _, rfl, Below.refl _ _, fun i x h => by omega⟩
    case round =>
      obtain ⟨k, hk, rfl, hbl, HR⟩ := hrel
      have hsz := hbl.size
      have HBl := hide hbl
      clear hbl
      by_cases hlt : k < bs.length
      · obtain ⟨⟨y1, y2⟩, hy⟩ : ∃ y, bs[k]? = some y := ⟨_, List.getElem?_eq_getElem hlt⟩
        obtain ⟨b, o, la, lc, sa, sc, rfl, hb, c1, c2, _, _⟩ := (HS.out.below HBl.out hB).get hy
        have hbw : b < wr.heap.size := by omega
        have HY := hide hy
        clear hy
        simp only at c1 c2
        by_cases h1 : 4 < y1.length
        · have hno : ¬ LimitsOk bs := fun h => by have h2 : y1.length ≤ 4 := (h.1 k _ hlt HY.out).1; omega
          have HNo := hide hno
          clear hno HR HY
          go_wp2
          go_ret
          exact ⟨BoolOf.no HNo.out, HBl.out⟩
        · by_cases h2 : 40 < y2.length
          · have hno : ¬ LimitsOk bs := fun h => by have h2 : y2.length ≤ 40 := (h.1 k _ hlt HY.out).2; omega
            have HNo := hide hno
            clear hno HR HY
            go_wp2
            go_ret
            exact ⟨BoolOf.no HNo.out, HBl.out⟩
          · go_wp2
            go_roundw
            case rel => exact ⟨k + 1, by omega, by go_num, HBl.out, HR.out.succ HY.out (by show y1.length ≤ 4; omega) (by show y2.length ≤ 40; omega)⟩
            case measure => simp [intOf]; omega
      · have hke : k = bs.length := by omega
        have HY : Hid (LimTo bs bs.length) := by show LimTo bs bs.length; rw [← hke]; exact HR.out
        clear hke
        go_wp2
        go_ret
        exact ⟨BoolOf.yes ⟨HY.out, by omega⟩, HBl.out⟩
end Go.Proofs.Ytcidgfdiacehmaa

/- A region that draws its order, walked under a condition S on the world that its last operation (number L, which waits for all the others) may break: S is asked behind every operation but that one. Laws of regions; no program. -/
namespace Go.Proofs.Ytcidgfdiacehmaa
open Go

section
variable {P : Program} {ops : Array Oper} {Q : Exit → Act → World → Prop} {md : Region.Mode} {S : World → Prop} {L : Nat}

/-- Does number k wait for number i, by way of others? -/
def waits (md : Region.Mode) (ops : Array Oper) : Nat → Nat → Nat → Bool
  | 0, k, i => k == i
  | n + 1, k, i => k == i || (match ops[k]? with | some o => o.after.toList.any fun e => Region.binds md e && waits md ops n e.on i | none => false)
/-- Whoever has come up has those that he waits for behind him. -/
def Shutd (md : Region.Mode) (ops : Array Oper) (listed : Array Bool) : Prop :=
  ∀ k o, ops[k]? = some o → listed.getD k false = true → ∀ e ∈ o.after, Region.binds md e = true → listed.getD e.on false = true
def shutB (md : Region.Mode) (ops : Array Oper) (listed : Array Bool) : Bool :=
  (List.range ops.size).all fun k => !(listed.getD k false) || (match ops[k]? with | some o => o.after.toList.all fun e => !(Region.binds md e) || listed.getD e.on false | none => true)
theorem shutd_of (md : Region.Mode) (ops : Array Oper) (listed : Array Bool) (h : shutB md ops listed = true) : Shutd md ops listed := by
  intro k o ho hk e he hb
  have hlt : k < ops.size := by
    rcases Nat.lt_or_ge k ops.size with h | h
    · exact h
    · rw [Array.getElem?_eq_none h] at ho; cases ho
  have h1 := List.all_eq_true.1 h k (List.mem_range.2 hlt)
  rw [hk, ho] at h1
  simp only [Bool.not_true, Bool.false_or] at h1
  have h2 := (List.all_eq_true.1 h1) e (Array.mem_toList_iff.2 he)
  rw [hb] at h2
  simpa using h2
theorem waits_listed {listed : Array Bool} (hc : Shutd md ops listed) : ∀ (n k i : Nat), waits md ops n k i = true → listed.getD k false = true → listed.getD i false = true
  | 0, k, i, h, hk => by rw [waits, beq_iff_eq] at h; rw [← h]; exact hk
  | n + 1, k, i, h, hk => by
    rw [waits, Bool.or_eq_true] at h
    rcases h with h | h
    · rw [beq_iff_eq] at h; rw [← h]; exact hk
    · cases ho : ops[k]? with
      | none => rw [ho] at h; cases h
      | some o =>
        rw [ho] at h
        simp only at h
        obtain ⟨e, he, h2⟩ := List.any_eq_true.1 h
        rw [Bool.and_eq_true] at h2
        exact waits_listed hc n e.on i h2.2 (hc k o ho hk e (Array.mem_toList_iff.1 he) h2.1)
/-- He who may come up has those that he waits for behind him. -/
theorem waits_ready {listed : Array Bool} (hc : Shutd md ops listed) {n k i : Nat} (h : waits md ops n k i = true) (hne : k ≠ i) (hr : k ∈ Region.ready md ops listed) : listed.getD i false = true := by
  obtain ⟨_, o, ho, hall⟩ := mem_ready.1 hr
  cases n with
  | zero => rw [waits, beq_iff_eq] at h; exact absurd h hne
  | succ n =>
    rw [waits, Bool.or_eq_true] at h
    rcases h with h | h
    · rw [beq_iff_eq] at h; exact absurd h hne
    · rw [ho] at h
      simp only at h
      obtain ⟨e, he, h2⟩ := List.any_eq_true.1 h
      rw [Bool.and_eq_true] at h2
      exact waits_listed hc n e.on i h2.2 (hall e (Array.mem_toList_iff.1 he) h2.1)
theorem Shutd.step {listed : Array Bool} (hc : Shutd md ops listed) {j : Nat} (hj : j ∈ Region.ready md ops listed) : Shutd md ops (listed.setIfInBounds j true) := by
  intro k o ho hk e he hb
  refine getD_set_true ?_
  by_cases hjk : j = k
  · subst hjk
    obtain ⟨_, o', ho', hall⟩ := mem_ready.1 hj
    rw [ho] at ho'; cases ho'
    exact hall e he hb
  · rw [getD_set_ne false hjk] at hk
    exact hc k o ho hk e he hb

/-- Whatever comes up next, and S holds behind whatever comes up but L. -/
def anyL (P : Program) (md : Region.Mode) (ops : Array Oper) (Q : Exit → Act → World → Prop) (S : World → Prop) (L : Nat) : Nat → Array Bool → Act → World → Prop
  | 0, listed, a, w => Region.ready md ops listed = [] ∧ Q .normal a w
  | n + 1, listed, a, w => (Region.ready md ops listed = [] → Q .normal a w) ∧
      ∀ i ∈ Region.ready md ops listed, wpOp P ops Q i (fun a' w' => (i ≠ L → S w') ∧ anyL P md ops Q S L n (listed.setIfInBounds i true) a' w') a w

theorem anyL_any : ∀ (n : Nat) (listed : Array Bool) (a : Act) (w : World), anyL P md ops Q S L n listed a w → wpAny P md ops Q n listed a w
  | 0, _, _, _, h => h
  | n + 1, _, _, _, h => ⟨h.1, fun i hi => wpOp_mono (fun a' w' h' => anyL_any n _ a' w' h'.2) (h.2 i hi)⟩
theorem region_anyL {id : Nat} {a : Act} {w : World} (L : Nat) (hm : P.follows .mixedOrders = true) (hS : S w.drew) (h : S w.drew → anyL P .any ops Q S L ops.size (Array.replicate ops.size false) a w.drew) : (Code.region id ops true).wp P Q a w :=
  wp_region_any hm (anyL_any _ _ _ _ (h hS))

theorem anyL_first {i : Nat} {oi : Oper} {v : Value} (hi : ops[i]? = some oi) (hsel : ∀ (j : Nat) (o : Oper) cs b, ops[j]? = some o → o.op ≠ .select cs b)
    (hQ : ∀ c a w, Q (.panic c) (a.put oi.dst v) w → Q (.panic c) a w) (q : Nat) (hw : waits md ops q L i = true) (hLi : L ≠ i) (n : Nat) :
    ∀ (listed : Array Bool) (a : Act) (w : World), Shutd md ops listed →
      (∀ j oj, ops[j]? = some oj → j ≠ i → listed.getD j true = false → (∀ e ∈ oj.after, Region.binds md e = true → e.on ≠ i) → oi.apart ops oj = true) →
      i ∈ Region.ready md ops listed → YieldsIf P ops S oi v a → S w →
      anyL P md ops Q S L n (listed.setIfInBounds i true) (a.put oi.dst v) w → anyL P md ops Q S L (n + 1) listed a w := by
  induction n with
  | zero =>
    intro listed a w _ _ hr hy hS H
    refine ⟨fun h => absurd hr (by rw [h]; exact List.not_mem_nil), fun j hj => ?_⟩
    by_cases hji : j = i
    · subst hji; exact hy.wpOp hi hS ⟨fun _ => hS, H⟩
    · exact absurd (ready_mono hj hji) (by rw [H.1]; exact List.not_mem_nil)
  | succ n ih =>
    intro listed a w hc hfree hr hy hS H
    refine ⟨fun h => absurd hr (by rw [h]; exact List.not_mem_nil), fun j hj => ?_⟩
    by_cases hji : j = i
    · subst hji; exact hy.wpOp hi hS ⟨fun _ => hS, H⟩
    · obtain ⟨hjun, oj, hoj, hall⟩ := mem_ready.1 hj
      have hlist : listed.getD i true = false := (mem_ready.1 hr).1
      have hgone : listed.getD i false ≠ true := fun h1 => by
        rcases Nat.lt_or_ge i listed.size with h' | h'
        · simp [h'] at hlist h1; rw [hlist] at h1; cases h1
        · simp [Array.getElem?_eq_none h'] at h1
      have hnot : ∀ e ∈ oj.after, Region.binds md e = true → e.on ≠ i := fun e he hb heq => hgone (heq ▸ hall e he hb)
      have hjL : j ≠ L := fun e => hgone (waits_ready hc hw hLi (e ▸ hj))
      have h2 := wpOp_putIf hoj (hfree j oj hoj hji hjun hnot) (fun cs b => hsel i oi cs b hi) (fun cs b => hsel j oj cs b hoj) hQ hy (H.2 j (ready_mono hj hji))
      refine wpOp_mono (fun a' w' h3 => ?_) h2
      have hcomm : (listed.setIfInBounds i true).setIfInBounds j true = (listed.setIfInBounds j true).setIfInBounds i true := Array.setIfInBounds_comm _ _ (Ne.symm hji)
      have hS' : S w' := h3.2.1 hjL
      refine ⟨fun _ => hS', ih _ a' w' (hc.step hj) ?_ (ready_mono hr (Ne.symm hji)) h3.1 hS' (by rw [← hcomm]; exact h3.2.2)⟩
      intro k ok hk hki hun hno
      refine hfree k ok hk hki ?_ hno
      by_cases hjk : j = k
      · subst hjk; exact hjun
      · rw [getD_set_ne true hjk] at hun; exact hun
/-- Take number i first. -/
theorem anyL_take (i : Nat) {oi : Oper} {v : Value} {n : Nat} {listed : Array Bool} {a : Act} {w : World} (hi : ops[i]? = some oi)
    (hs : Region.noSelect ops = true) (hf : Region.free md ops listed i = true) (hr : (Region.ready md ops listed).contains i = true) (hw : waits md ops ops.size L i = true) (hLi : (L == i) = false) (hc : shutB md ops listed = true)
    (hQ : ∀ c a w, Q (.panic c) (a.put oi.dst v) w → Q (.panic c) a w) (hy : YieldsIf P ops S oi v a) (hS : S w)
    (h : anyL P md ops Q S L n (listed.setIfInBounds i true) (a.put oi.dst v) w) : anyL P md ops Q S L (n + 1) listed a w :=
  anyL_first hi (Region.noSelect_spec hs) hQ _ hw (by simpa using hLi) n listed a w (shutd_of _ _ _ hc) (Region.free_spec hi hf) (by simpa using hr) hy hS h
/-- One alone may come up. -/
theorem anyL_one (i : Nat) {o : Oper} {n : Nat} {listed : Array Bool} {a : Act} {w : World} (hr : Region.ready md ops listed = [i]) (ho : ops[i]? = some o) (hLi : (L == i) = false)
    (h : ∀ K' : Act → World → Prop, Shut (∀ a w, S w → (S w → anyL P md ops Q S L n (listed.setIfInBounds i true) a w) → K' a w) → if Region.wanted o (yielded ops a.tmps) = true then Oper.wp P o a w K' Q else K' (a.put o.dst undef) w) :
    anyL P md ops Q S L (n + 1) listed a w := by
  refine ⟨fun h0 => (by rw [hr] at h0; cases h0), fun j hj => ?_⟩
  rw [hr, List.mem_singleton] at hj
  subst hj
  exact wpOp_step ho fun K' hK => h K' fun a w hS hW => hK a w ⟨fun _ => hS, hW hS⟩
/-- The last. -/
theorem anyL_last (i : Nat) {o : Oper} {n : Nat} {listed : Array Bool} {a : Act} {w : World} (hr : Region.ready md ops listed = [i]) (ho : ops[i]? = some o) (hLi : (L == i) = true) (hd : Region.ready md ops (listed.setIfInBounds i true) = [])
    (h : ∀ K' : Act → World → Prop, Shut (∀ a w, Q .normal a w → K' a w) → if Region.wanted o (yielded ops a.tmps) = true then Oper.wp P o a w K' Q else K' (a.put o.dst undef) w) :
    anyL P md ops Q S L (n + 1) listed a w := by
  refine ⟨fun h0 => (by rw [hr] at h0; cases h0), fun j hj => ?_⟩
  rw [hr, List.mem_singleton] at hj
  subst hj
  refine wpOp_step ho fun K' hK => h K' fun a w hq => hK a w ⟨fun hne => absurd (beq_iff_eq.1 hLi).symm hne, ?_⟩
  cases n with
  | zero => exact ⟨hd, hq⟩
  | succ n => exact ⟨fun _ => hq, by rw [hd]; intro _ h; cases h⟩
end
end Go.Proofs.Ytcidgfdiacehmaa

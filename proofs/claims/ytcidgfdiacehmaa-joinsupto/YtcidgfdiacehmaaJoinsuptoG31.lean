/- 'choirlaw.Joins', for any two lists of series of bulk at most 1048576: Join answers the document's join or error, either way round; what is handed in stays, what comes out is its owner's. The second form's statement: its only condition is the row's own bound on the arguments' bulk. -/
import Derived.Test.YtcidgfdiacehmaaJoinsuptoG30
import Derived.Test.YtcidgfdiacehmaaJoinsuptoG13
/- join.All. -/
namespace Go.Proofs.Ytcidgfdiacehmaa
open Go.RowKit Go.Lib

def Ranged (s : Ser) : Prop := ∀ x ∈ s.2, -9223372036854775808 ≤ x.1 ∧ x.1 ≤ 9223372036854775807 ∧ x.2 ≤ 18446744073709551615
theorem STops.ranged {d j : List Ser} (h : STops d j) (hd : ∀ s ∈ d, Ranged s) : ∀ s ∈ j, Ranged s := fun s hs x hx => by
  have h1 := (((h.tops s hs).mem x.1 x.2).1 hx).1
  obtain ⟨l, hl, hxl⟩ := List.mem_flatten.1 h1
  obtain ⟨y, hy, rfl⟩ := List.mem_map.1 hl
  exact hd y (List.mem_filter.1 hy).1 x hxl
theorem STops.small {d j : List Ser} (h : STops d j) (hd : ∀ s ∈ d, SerFit s) (h1 : d.length ≤ 1000000000) (h2 : samN d ≤ 1000000000000) : Small j := by
  refine ⟨by have := h.len; omega, fun s hs => ?_, fun s hs => ?_⟩
  · obtain ⟨x, hx, e⟩ := h.back s hs
    have := (hd x hx).1
    rw [← e]; omega
  · have h3 := h.sams hs
    have h4 : (d.map (·.2)).flatten.length ≤ 1000000000000 := h2
    omega

set_option maxRecDepth 100000 in
set_option maxHeartbeats 1000000 in
theorem joinAll_any (W : World) (v : Value) (bss : List (List Ser)) (hv : RowsR W v bss) (hok : ∀ bs ∈ bss, BatchOk bs) (hall : ∀ s ∈ bss.flatten, SerFit s ∧ Ranged s) (hn : bss.length ≤ 1000000000) (hfl : bss.flatten.length ≤ 1000000000) (hsa : samN bss.flatten ≤ 1000000000000) :
    Calls Try.prog 25 #[v] W fun e w' => ∃ j n, IsJoin bss j ∧ Code j n ∧ Below W.heap.size W w' ∧ ((n = 0 ∧ ∃ jv, e = .returned (.tuple #[jv, .int .i64 0]) ∧ FreshD w' W.heap.size jv j) ∨ (n ≠ 0 ∧ e = .returned (.tuple #[.slice none 0 0, .int .i64 n]))) := by
  obtain ⟨va, vc, rfl, -⟩ := id hv
  have C1 := hide (joinBatches_any W _ bss hv (fun l hl => LLt_cmp ((batchOk_iff l).1 (hok l hl)).2) (fun s hs => (hall s hs).1) hn hfl hsa)
  have HOk := hide hok
  have HAll := hide hall
  have HSa := hide hsa
  clear hv hok hall hsa
  go_enter Try.func25, Try.ntmps25
  go_wp2_with fail
  refine C1.out.mono ?_
  rintro e w1 ⟨jv, j, rfl, hT, hF, hb1⟩
  have hba := hF.batchAt (hT.ranged fun s hs => (HAll.out s hs).2)
  obtain ⟨ja, jc, rfl, -⟩ := id hba
  have C2 := hide (check_any w1.heap.size w1.heap.size (.slice ja j.length jc) j (w1.alloc (.cells #[.slice ja j.length jc] 22)) (World.cell?_alloc_new _ _ _ 0) (hba.kept fun k hk => heap_alloc_old w1 _ hk) (by simp) (by simp) (hT.small (fun s hs => (HAll.out s hs).1) hfl HSa.out))
  have HJ := hide (hT.join HOk.out)
  have HF := hide hF
  have HB1 := hide hb1
  have hs1 := hb1.size
  clear C1 hT hF hb1 hba
  go_wp2_with fail
  refine C2.out.mono ?_
  rintro e w2 ⟨⟨n, rfl, hn2⟩, hb2⟩
  have hb12 : Below w1.heap.size w1 w2 := ((Below.refl _ _).alloc (Nat.le_refl _) _).trans (hb2.mono (by simp))
  have HB2 : Hid (Below W.heap.size W w2) := HB1.out.trans (hb12.mono hs1)
  have HC := hide hn2
  have HF2 : Hid (FreshD w2 W.heap.size (.slice ja j.length jc) j) := by
    obtain ⟨vals, h1, h2, h3⟩ := HF.out
    exact ⟨vals, own_kept h1 fun k e => hb12.block k (World.ownsRow.lt h1 k e).2, h2.kept fun k _ hk => hb12.block k hk, h3⟩
  clear C2 hb2 hb12 HF HB1 hn2
  by_cases h0 : n = 0
  · subst h0
    go_wp2
    go_ret2
    exact ⟨j, 0, HJ.out, HC.out, HB2.out, .inl ⟨rfl, _, rfl, HF2.out⟩⟩
  · have h1 : ¬ (n : Int) = 0 := by omega
    have h2 : ((n : Int) == 0) = false := by simp [h0]
    go_wp2
    go_ret2
    exact ⟨j, n, HJ.out, HC.out, HB2.out, .inr ⟨h0, rfl⟩⟩
end Go.Proofs.Ytcidgfdiacehmaa

/- choir.Join. -/
namespace Go.Proofs.Ytcidgfdiacehmaa
open Go.RowKit Go.Lib

theorem limits_mem {bs : List Ser} (h : LimitsOk bs) : ∀ s ∈ bs, s.1.length ≤ 4 ∧ s.2.length ≤ 40 := fun s hs => by
  obtain ⟨i, hi, e⟩ := List.mem_iff_getElem.1 hs
  exact h.1 i s hi (by rw [List.getElem?_eq_getElem hi, e])
theorem samN_le {bs : List Ser} (h : ∀ s ∈ bs, s.2.length ≤ 40) : samN bs ≤ 40 * bs.length := by
  induction bs with
  | nil => simp [samN]
  | cons s r ih =>
    have h1 := h s (List.mem_cons_self ..)
    have h2 := ih fun x hx => h x (List.mem_cons_of_mem _ hx)
    have e : samN (s :: r) = s.2.length + samN r := by simp [samN]
    rw [e, List.length_cons]; omega
theorem fit_of {bs : List Ser} (h : BatchOk bs) (g : LimitsOk bs) : ∀ s ∈ bs, SerFit s := fun s hs => by
  rw [batchOk_iff] at h
  have h1 := h.1 s hs
  refine ⟨by have := (limits_mem g s hs).1; omega, fun t ht => ?_, SLt_cmp ((samplesOk_iff _).1 h1.2).2⟩
  obtain ⟨i, hi, e⟩ := List.mem_iff_getElem.1 ht
  have := h1.1.1 i t hi (by rw [List.getElem?_eq_getElem hi, e])
  exact ⟨Nat.le_trans this.2.1 (by decide), Nat.le_trans this.2.2 (by decide)⟩
theorem BatchAt.ranged {w : World} {B : Nat} {v : Value} {bs : List Ser} (h : BatchAt w B v bs) : ∀ s ∈ bs, Ranged s := fun s hs => by
  obtain ⟨i, hi, e⟩ := List.mem_iff_getElem.1 hs
  obtain ⟨a, c, rfl, -⟩ := id h
  obtain ⟨_, _, _, _, _, _, _, _, _, hS⟩ := batchGet h (j := i) (x := s) (by rw [List.getElem?_eq_getElem hi, e])
  exact hS.choose_spec.choose_spec.2.2.1
theorem BatchAt.wider {w : World} {B B' : Nat} {v : Value} {bs : List Ser} (h : BatchAt w B v bs) (hB : B ≤ B') : BatchAt w B' v bs := by
  obtain ⟨a, c, hv, hc, h2⟩ := h
  refine ⟨a, c, hv, hc, h2.imp id fun ⟨b, o, ha, hb, hcell⟩ => ⟨b, o, ha, by omega, fun i x hx => ?_⟩⟩
  obtain ⟨lv, sv, h1, h2, h3, h4⟩ := hcell i x hx
  exact ⟨lv, sv, h1, h2, h3.wider hB, h4.wider hB⟩
/-- What Join answers: the error and the join. -/
def JoinOf (a b : List Ser) (n : Nat) (j : List Ser) : Prop :=
  (n = 1 ∧ ¬ (BatchOk a ∧ BatchOk b)) ∨ (n = 2 ∧ BatchOk a ∧ BatchOk b ∧ ¬ (LimitsOk a ∧ LimitsOk b)) ∨ (BatchOk a ∧ BatchOk b ∧ LimitsOk a ∧ LimitsOk b ∧ IsJoin [a, b] j ∧ Code j n)
theorem two_all {a b : List Ser} {p : List Ser → Prop} : (∀ bs ∈ [a, b], p bs) ↔ p a ∧ p b := by simp
theorem two_get {a b : List Ser} {p : Nat → List Ser → Prop} (h0 : p 0 a) (h1 : p 1 b) : ∀ i bs, [a, b][i]? = some bs → p i bs := fun i bs h => by
  match i, h with
  | 0, h => simp at h; subst h; exact h0
  | 1, h => simp at h; subst h; exact h1
  | i + 2, h => simp at h

set_option maxRecDepth 100000 in
set_option maxHeartbeats 1000000 in
theorem join_any (W : World) (va vb : Value) (a b : List Ser) (ha : BatchAt W W.heap.size va a) (hb : BatchAt W W.heap.size vb b) (hsa : Small a) (hsb : Small b) :
    Calls Try.prog 11 #[va, vb] W fun e w' => ∃ n j, JoinOf a b n j ∧ Below W.heap.size W w' ∧ ((n = 0 ∧ ∃ jv, e = .returned (.tuple #[jv, .int .i64 0]) ∧ FreshD w' W.heap.size jv j) ∨ (n ≠ 0 ∧ e = .returned (.tuple #[.slice none 0 0, .int .i64 n]))) := by
  obtain ⟨aa, ac, rfl, -⟩ := id ha
  obtain ⟨ba, bc, rfl, -⟩ := id hb
  have C1 := hide (checks_any W.heap.size W.heap.size 0 2 [a, b] (W.alloc (.cells #[.slice aa a.length ac, .slice ba b.length bc] 22))
    (two_get ⟨_, World.cell?_alloc_new _ _ _ 0, ha.kept fun k hk => heap_alloc_old W _ hk⟩ ⟨_, World.cell?_alloc_new _ _ _ 1, hb.kept fun k hk => heap_alloc_old W _ hk⟩) (by simp) (by simp) (two_all.2 ⟨hsa, hsb⟩) (by simp))
  have HA := hide ha
  have HB := hide hb
  clear ha hb hsa hsb
  go_enter Try.func11, Try.ntmps11
  go_wp2_with fail
  refine C1.out.mono ?_
  rintro e w1 ⟨⟨n, rfl, hn⟩, hb1⟩
  have hb01 : Below W.heap.size W w1 := ((Below.refl _ _).alloc (Nat.le_refl _) _).trans (hb1.mono (by simp))
  have hs1 := hb01.size
  have HB1 := hide hb01
  have HC := hide hn
  clear C1 hb1 hb01 hn
  by_cases h0 : n = 0
  · subst h0
    obtain ⟨hok, hlim⟩ : (∀ bs ∈ [a, b], BatchOk bs) ∧ ∀ bs ∈ [a, b], LimitsOk bs := by
      rcases HC.out with ⟨h, _⟩ | ⟨h, _⟩ | ⟨_, h⟩
      · cases h
      · cases h
      · exact h
    have hA1 := HA.out.below HB1.out (Nat.le_refl _)
    have hB1 := HB.out.below HB1.out (Nat.le_refl _)
    have hfit : ∀ s ∈ ([a, b] : List (List Ser)).flatten, SerFit s ∧ Ranged s := fun s hs => by
      obtain ⟨l, hl, hs⟩ := List.mem_flatten.1 hs
      refine ⟨fit_of (hok l hl) (hlim l hl) s hs, ?_⟩
      rcases List.mem_cons.1 hl with e | hl
      · rw [e] at hs; exact HA.out.ranged s hs
      · rw [List.mem_singleton.1 hl] at hs; exact HB.out.ranged s hs
    have hla := (two_all.1 hlim).1
    have hlb := (two_all.1 hlim).2
    have hfl : ([a, b] : List (List Ser)).flatten.length ≤ 16 := by
      have h1 := hla.2; have h2 := hlb.2; simp; omega
    have hsam : samN ([a, b] : List (List Ser)).flatten ≤ 640 := by
      refine Nat.le_trans (samN_le fun s hs => ?_) (by omega)
      obtain ⟨l, hl, hs⟩ := List.mem_flatten.1 hs
      exact (limits_mem (hlim l hl) s hs).2
    have hrows : RowsR (w1.alloc (.cells #[.slice aa a.length ac, .slice ba b.length bc] 22)) (.slice (some ⟨w1.heap.size, 0, none⟩) 2 2) [a, b] :=
      ⟨_, _, rfl, two_get ⟨w1.heap.size, 0, aa, ac, rfl, by simp, World.cell?_alloc_new _ _ _ 0, (hA1.wider hs1).kept (fun k hk => heap_alloc_old w1 _ hk) |>.wider (by simp)⟩ ⟨w1.heap.size, 0, ba, bc, rfl, by simp, World.cell?_alloc_new _ _ _ 1, (hB1.wider hs1).kept (fun k hk => heap_alloc_old w1 _ hk) |>.wider (by simp)⟩⟩
    have C2 := hide (joinAll_any _ _ [a, b] hrows hok hfit (by simp) (by omega) (by omega))
    have HOk : Hid (BatchOk a ∧ BatchOk b ∧ LimitsOk a ∧ LimitsOk b) := ⟨(two_all.1 hok).1, (two_all.1 hok).2, hla, hlb⟩
    clear hA1 hB1 hfit hla hlb hfl hsam hrows hok hlim HA HB HC
    go_wp2_with fail
    refine C2.out.mono ?_
    rintro e w2 ⟨j, m, hj, hm, hb2, hr⟩
    have hb12 : Below W.heap.size W w2 := HB1.out.trans ((((Below.refl _ _).alloc (Nat.le_refl _) _).trans (hb2.mono (by simp))).mono hs1)
    have HB2 := hide hb12
    have HR : Hid (JoinOf a b m j) := .inr (.inr ⟨HOk.out.1, HOk.out.2.1, HOk.out.2.2.1, HOk.out.2.2.2, hj, hm⟩)
    clear C2 HOk hj hm hb12
    rcases hr with ⟨rfl, jv, rfl, hF⟩ | ⟨hm0, rfl⟩
    · have HF : Hid (FreshD w2 W.heap.size jv j) := by
        obtain ⟨vals, h1, h2, h3⟩ := hF
        exact ⟨vals, own_mono h1 (by simp; omega), ⟨h2.1, fun i p x hp hx => ⟨own_mono (h2.2 i p x hp hx).1 (by simp; omega), own_mono (h2.2 i p x hp hx).2 (by simp; omega)⟩⟩, h3⟩
      clear hF hb2
      go_wp2
      go_ret2
      exact ⟨0, j, HR.out, HB2.out, .inl ⟨rfl, _, rfl, HF.out⟩⟩
    · clear hb2
      go_wp2
      go_ret2
      exact ⟨m, j, HR.out, HB2.out, .inr ⟨hm0, rfl⟩⟩
  · have h1 : ¬ (n : Int) = 0 := by omega
    have h2 : ((n : Int) == 0) = false := by simp [h0]
    have HR : Hid (JoinOf a b n []) := by
      rcases HC.out with ⟨rfl, h⟩ | ⟨rfl, h, g⟩ | ⟨rfl, _⟩
      · exact .inl ⟨rfl, fun g => h (two_all.2 g)⟩
      · exact .inr (.inl ⟨rfl, (two_all.1 h).1, (two_all.1 h).2, fun k => g (two_all.2 k)⟩)
      · exact absurd rfl h0
    go_wp2
    go_ret2
    exact ⟨n, [], HR.out, HB1.out, .inr ⟨h0, rfl⟩⟩
end Go.Proofs.Ytcidgfdiacehmaa

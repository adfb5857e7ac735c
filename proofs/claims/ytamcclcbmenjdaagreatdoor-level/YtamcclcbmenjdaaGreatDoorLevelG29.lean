/- 'choirkeep.Level', for any list of steps (100 of them are done): when all are up, nothing is under way, and each has told each other one, all have the same, and compacted logs are the same bytes. The first form's statement and its card: no condition beside the row's own. -/
import Derived.Test.YtamcclcbmenjdaaGreatDoorLevelG28
import Derived.Test.YtamcclcbmenjdaaGreatDoorLevelG25
import Derived.Deep.AppendLies
/- join's heap of rests (of series): Push and Pop. -/
namespace Go.Proofs.YtamcclcbmenjdaaGreatDoor
open Go.RowKit Go.Lib

theorem assertR (v : Value) (W : World) : (Instr.typeAssert (.iface 39 v) 20 39 false).run Tryz.prog W = .ok v W := by kernel_rfl

set_option maxRecDepth 100000 in
set_option maxHeartbeats 1000000 in
theorem pushR_any {w0 : World} {K : Nat → Obj → Prop} {hb : Nat} {lv : Value} {vs : List Value} (W : World) (h : RstR w0 K W hb lv vs) (a : Option Addr) (n c : Nat) (hl : vs.length ≤ 1000000000000) :
    Calls Tryz.prog 230 #[.pointer (some ⟨hb, 0, none⟩), .iface 39 (.slice a n c)] W fun e w' => e = .returned (.tuple #[]) ∧ ∃ lv', RstR w0 K w' hb lv' (vs ++ [.slice a n c]) := by
  obtain ⟨i0, hi, hz0, hz1, hz2⟩ := info_parts Tryz.infoRowR
  obtain ⟨la, lc, rfl⟩ := h.shape
  have c0 := h.c0
  have f0 := h.f0
  have hlt := h.lt
  have hws := h.below.size
  have HR := hide h
  have hown := h.own
  have hta := assertR
  clear h
  go_enter Tryz.func230, Tryz.ntmps230
  go_region_law ((refine step_append_lies _ (by rfl) (.tmp 8) (.tmp 11) 24 (by rfl) w0.heap.size 39 i0 (.slice none 0 0) 1 24 Tryz.underlying24 hi hz0 hz1 hz2 rfl (by decide) (.slice la vs.length lc) vs.length vs (by rfl) (by first | exact (HR.out.own.alloc _) | exact hown.alloc _) ⟨W.heap.size, 0, none⟩ 1 1 [.slice a n c] (by rfl) rfl (by exact one_news _ _ _) (by intro u hu; simp at hu; subst hu; rfl) (by decide) (by unfold maxLen; omega) (by omega) (by simp; omega) (W.heap.size + 1) (by simp) ?_; intro g cap w1 hown1 hgrow hat hgl; have hk : w1.heap[hb]? = W.heap[hb]? := (hgrow.block hb (by simp; omega) (fun e => HR.out.ne e.symm)).trans (heap_alloc_old W _ hlt); have d0 := (World.cell?_of_block (a := ⟨hb, 0, none⟩) hk).trans c0; have e0 := (World.frozen?_of_block (a := ⟨hb, 0, none⟩) hk).trans f0))
  all_goals
    have HF : Hid (RstR w0 K (w1.setCell ⟨hb, 0, none⟩ (.slice (some ⟨g, 0, none⟩) (vs.length + 1) cap)) hb (.slice (some ⟨g, 0, none⟩) (vs.length + 1) cap) (vs ++ [.slice a n c])) := by
      have hbw : Below w0.heap.size w0 w1 := (HR.out.below.alloc hws (.cells #[.slice a n c] 39)).drew.grown hgrow (by show w0.heap.size ≤ (W.alloc _).heap.size; simp; omega) (fun k e => (World.ownsRow.lt HR.out.own k e).1)
      have hgb : g ≠ hb := by
        rcases hat with hat | hat
        · intro e; exact HR.out.ne (by rw [hat, e])
        · omega
      have hg0 : w0.heap.size ≤ g := by
        rcases hat with hat | hat
        · exact (World.ownsRow.lt HR.out.own g hat).1
        · omega
      have hlt1 : hb < w1.heap.size := by have := hgrow.size; simp at this; omega
      have c1 := (World.cell?_of_block (a := ⟨hb, 1, none⟩) hk).trans HR.out.c1
      refine ⟨hbw.setCell HR.out.base _, HR.out.base, by simpa using hlt1, World.cell?_setCell_same _ _ _ d0, ?_, by rw [World.frozen?_setCell]; exact e0, ?_, fun e => hgb (Option.some.inj e), fun k o ho => ?_⟩
      · rw [World.cell?_setCell_other _ _ _ _ (fun e => by have := congrArg Addr.off e; cases this)]; exact c1
      · have e2 : (vs ++ [Value.slice a n c]).length = vs.length + 1 := by simp
        rw [e2]
        exact own_kept hown1 fun k e => Below.heap_setCell _ _ _ k (by cases e; exact hgb)
      · obtain ⟨k1, k2, k3⟩ := HR.out.kp k o ho
        have klt := lt_of_heapR k1
        refine ⟨(Below.heap_setCell _ _ _ k k2).trans ((hgrow.block k (by simp; omega) (fun e => k3 e.symm)).trans ((heap_alloc_old W _ klt).trans k1)), k2, fun e => ?_⟩
        have e2 : g = k := Option.some.inj e
        rcases hat with hat | hat
        · exact k3 (by rw [hat, e2])
        · omega
    clear hown1 hgrow hat hgl hk d0 e0
    go_wp2
    go_end0
    exact ⟨rfl, _, HF.out.kept (Below.refl _ _)⟩


set_option maxRecDepth 100000 in
set_option maxHeartbeats 1000000 in
theorem popR_any {w0 : World} {K : Nat → Obj → Prop} {hb : Nat} {lv : Value} {vs : List Value} {a : Option Addr} {n c : Nat} (W : World) (h : RstR w0 K W hb lv (vs ++ [.slice a n c])) (hl : vs.length ≤ 1000000000000) :
    Calls Tryz.prog 229 #[.pointer (some ⟨hb, 0, none⟩)] W fun e w' => e = .returned (.iface 39 (.slice a n c)) ∧ ∃ lv', RstR w0 K w' hb lv' vs := by
  have hlast : (vs ++ [Value.slice a n c])[vs.length]? = some (.slice a n c) := by simp
  have hlen : (vs ++ [Value.slice a n c]).length = vs.length + 1 := by simp
  obtain ⟨g, lc, rfl, g1, gf1, hg0, hgn, hgl⟩ := h.get hlast
  have c0 := h.c0
  have f0 := h.f0
  have hcap : vs.length ≤ lc := by
    rcases h.own.2 with ⟨h0, _⟩ | ⟨g', cap, cur, he, _, _, hc, _⟩
    · cases h0
    · cases he; simp at hc; omega
  have HF : Hid (RstR w0 K (W.setCell ⟨hb, 0, none⟩ (.slice (some ⟨g, 0, none⟩) vs.length lc)) hb (.slice (some ⟨g, 0, none⟩) vs.length lc) vs) := by
    refine ⟨h.below.setCell h.base _, h.base, by simpa using h.lt, World.cell?_setCell_same _ _ _ c0, ?_, by rw [World.frozen?_setCell]; exact f0, ?_, fun e => hgn (Option.some.inj e), fun k o ho => ⟨(Below.heap_setCell _ _ _ k (h.kp k o ho).2.1).trans (h.kp k o ho).1, (h.kp k o ho).2⟩⟩
    · rw [World.cell?_setCell_other _ _ _ _ (fun e => by have := congrArg Addr.off e; cases this)]; exact h.c1
    · exact own_kept (own_less h.own) fun k e => Below.heap_setCell _ _ _ k (by cases e; exact hgn)
  rw [hlen] at c0
  have k1 : IntKind.i64.wrap ((vs.length : Int) + 1 - 1) = (vs.length : Int) := by rw [IntKind.wrap_i64]; omega
  clear h hlast hlen
  go_enter Tryz.func229, Tryz.ntmps229
  go_wp2
  go_ret
  exact ⟨rfl, _, HF.out⟩
end Go.Proofs.YtamcclcbmenjdaaGreatDoor

/- container/heap over join's rests (of series): up, down, Push, Pop. -/
namespace Go.Proofs.YtamcclcbmenjdaaGreatDoor
open Go.RowKit Go.Lib

/-- The first element of list number k. -/
def hdR (ls : List (List Ser)) (k : Nat) : Ser := (ls.getD k []).headD default
def leR (x y : Ser) : Prop := cmpS x y ≤ 0
theorem leR_tot (x y : Ser) : leR x y ∨ leR y x := cmpS_ok.tot x y
theorem leR_tr {x y z : Ser} (h : leR x y) (g : leR y z) : leR x z := cmpS_ok.le_tr h g
theorem hdR_of {ls : List (List Ser)} {k : Nat} {x : Ser} {r : List Ser} (h : ls[k]? = some (x :: r)) : hdR ls k = x := by
  unfold hdR; rw [List.getD_eq_getElem?_getD, h]; rfl
theorem hdR_swap {ls : List (List Ser)} {i j : Nat} {l m : List Ser} (hi : ls[i]? = some l) (hj : ls[j]? = some m) : hdR ((ls.set i m).set j l) = Hp.swp (hdR ls) i j := by
  funext k
  have h1 := (List.getElem?_eq_some_iff.1 hi).1
  have h2 := (List.getElem?_eq_some_iff.1 hj).1
  unfold Hp.swp hdR
  simp only [List.getD_eq_getElem?_getD]
  by_cases e2 : k = j
  · subst e2
    rw [List.getElem?_set_self (by simpa using h2)]
    by_cases e1 : k = i
    · subst e1; rw [if_pos rfl, hi]
    · rw [if_neg e1, if_pos rfl, hi]
  · rw [List.getElem?_set_ne (fun e => e2 e.symm)]
    by_cases e1 : k = i
    · subst e1; rw [List.getElem?_set_self h1, if_pos rfl, hj]
    · rw [List.getElem?_set_ne (fun e => e1 e.symm), if_neg e1, if_neg e2]
/-- A heap of rests, and the lists that are in it. -/
structure HsR (w0 : World) (K : Nat → Obj → Prop) (W : World) (hb n : Nat) (lv : Value) (vs : List Value) (ls : List (List Ser)) : Prop where
  rst : RstR w0 K W hb lv vs
  lists : ListsR w0 vs ls
  len : ls.length = n
theorem AtR_shape {w : World} {B : Nat} {v : Value} {l : List Ser} (h : BatchAt w B v l) : ∃ a n c, v = .slice a n c := by
  obtain ⟨a, c, rfl, _⟩ := h; exact ⟨_, _, _, rfl⟩
theorem HsR.kept {w0 : World} {K : Nat → Obj → Prop} {W W' : World} {hb n : Nat} {lv : Value} {vs : List Value} {ls : List (List Ser)} (h : HsR w0 K W hb n lv vs ls) (hb' : Below W.heap.size W W') : HsR w0 K W' hb n lv vs ls := ⟨h.rst.kept hb', h.lists, h.len⟩
theorem HsR.cons {w0 : World} {K : Nat → Obj → Prop} {W : World} {hb n : Nat} {lv : Value} {vs : List Value} {ls : List (List Ser)} (h : HsR w0 K W hb n lv vs ls) {i : Nat} (hi : i < n) : ∃ x r v, ls[i]? = some (x :: r) ∧ vs[i]? = some v ∧ (∃ a n c, v = .slice a n c) ∧ hdR ls i = x := by
  obtain ⟨l, hl⟩ : ∃ l, ls[i]? = some l := ⟨_, List.getElem?_eq_getElem (by rw [h.len]; exact hi)⟩
  obtain ⟨v, hv⟩ : ∃ v, vs[i]? = some v := ⟨_, List.getElem?_eq_getElem (by rw [h.lists.len, h.len]; exact hi)⟩
  obtain ⟨h1, h2⟩ := h.lists.each i v l hv hl
  cases l with
  | nil => exact absurd rfl h2
  | cons x r => exact ⟨x, r, v, hl, hv, AtR_shape h1, hdR_of hl⟩
theorem ListsR.swap {w0 : World} {vs : List Value} {ls : List (List Ser)} (h : ListsR w0 vs ls) {i j : Nat} {v u : Value} {l m : List Ser} (hv : vs[i]? = some v) (hu : vs[j]? = some u) (hl : ls[i]? = some l) (hm : ls[j]? = some m) : ListsR w0 ((vs.set i u).set j v) ((ls.set i m).set j l) := by
  have v1 := (List.getElem?_eq_some_iff.1 hv).1
  have v2 := (List.getElem?_eq_some_iff.1 hu).1
  have l1 := (List.getElem?_eq_some_iff.1 hl).1
  have l2 := (List.getElem?_eq_some_iff.1 hm).1
  refine ⟨by simp [h.len], fun k p q hp hq => ?_⟩
  by_cases e2 : k = j
  · subst e2
    rw [List.getElem?_set_self (by simpa using v2)] at hp
    rw [List.getElem?_set_self (by simpa using l2)] at hq
    cases hp; cases hq
    exact h.each i v l hv hl
  · rw [List.getElem?_set_ne (fun e => e2 e.symm)] at hp hq
    by_cases e1 : k = i
    · subst e1
      rw [List.getElem?_set_self v1] at hp
      rw [List.getElem?_set_self l1] at hq
      cases hp; cases hq
      exact h.each j u m hu hm
    · rw [List.getElem?_set_ne (fun e => e1 e.symm)] at hp hq
      exact h.each k p q hp hq

set_option maxRecDepth 100000 in
set_option maxHeartbeats 1000000 in
theorem upR_any {w0 : World} {K : Nat → Obj → Prop} {hb n : Nat} {lv : Value} {vs : List Value} {ls : List (List Ser)} (W : World) (h : HsR w0 K W hb n lv vs ls) (hsm : ∀ l ∈ ls, ∀ x ∈ l, SmR x) (j : Nat) (hj : j < n) (hn : n ≤ 1000000000000) (hu : Hp.UpInv leR (hdR ls) n j) :
    Calls Tryz.prog 192 #[.iface 170 (.pointer (some ⟨hb, 0, none⟩)), .int .i64 j] W fun e w' => e = .returned (.tuple #[]) ∧ ∃ vs' ls', HsR w0 K w' hb n lv vs' ls' ∧ ls'.Perm ls ∧ Hp.IsHeap leR (hdR ls') n := by
  have m1 := methR_less
  have m2 := methR_swap
  have HSm := hide hsm
  have H0 := hide h
  have HU0 := hide hu
  clear h hsm hu
  go_enter Tryz.func192, Tryz.ntmps192
  go_wp2
  go_loopw [1, 4] (fun jv _ wr => ∃ (j : Nat) (vs : List Value) (ls' : List (List Ser)), j < n ∧ jv = .int .i64 j ∧ Hid (HsR w0 K wr hb n lv vs ls') ∧ Hid (ls'.Perm ls) ∧ Hid (Hp.UpInv leR (hdR ls') n j)) (fun jv _ _ => (intOf jv).toNat)
  case atStart => exact ⟨j, vs, ls, hj, rfl, H0.out, List.Perm.refl _, HU0.out⟩
  case round =>
    clear H0 HU0
    obtain ⟨j, vs', ls', hj, rfl, H, HP, HU⟩ := hrel
    cases j with
    | zero =>
      have HI := hide (Hp.up_done HU.out (.inl rfl))
      clear HU
      go_wp2
      go_end0
      exact ⟨rfl, vs', ls', H.out, HP.out, HI.out⟩
    | succ k =>
      obtain ⟨x, r, v, hl, hv, hsv, hx⟩ := H.out.cons hj
      obtain ⟨y, s, u, hm, hu, hsu, hy⟩ := H.out.cons (i := k / 2) (by omega)
      have CL : Hid (∀ (J I : Int), J = ((k + 1 : Nat) : Int) → I = ((k / 2 : Nat) : Int) → Calls Tryz.prog 228 #[.pointer (some ⟨hb, 0, none⟩), .int .i64 J, .int .i64 I] wr fun e w' => e = .returned (.bool (decide (cmpS x y < 0))) ∧ Below wr.heap.size wr w') := fun J I hJ hI => by
        subst hJ hI
        exact lessR_any wr H.out.rst H.out.lists (fun l hl x hx => HSm.out l (HP.out.mem_iff.1 hl) x hx) (k + 1) (k / 2) hl hm rfl rfl
      have CS : Hid (∀ (W2 : World) (I J : Int), Below wr.heap.size wr W2 → I = ((k / 2 : Nat) : Int) → J = ((k + 1 : Nat) : Int) → Calls Tryz.prog 231 #[.pointer (some ⟨hb, 0, none⟩), .int .i64 I, .int .i64 J] W2 fun e w' => e = .returned (.tuple #[]) ∧ RstR w0 K w' hb lv ((vs'.set (k / 2) v).set (k + 1) u)) := fun W2 I J hW hI hJ => by
        subst hI hJ
        exact swapR_any W2 (H.out.rst.kept hW) (k / 2) (k + 1) hu hv hsu hsv
      have k1 : ¬ (k : Int) / 2 = (k : Int) + 1 := by omega
      have k2 : ((k : Int) / 2 == (k : Int) + 1) = false := by simp; omega
      by_cases hc : cmpS x y < 0
      · have hnl : ¬ leR (hdR ls' ((k + 1 - 1) / 2)) (hdR ls' (k + 1)) := by
          rw [show (k + 1 - 1) / 2 = k / 2 by omega, hx, hy]
          unfold leR
          have := cmpS_ok.neg x y
          omega
        have hun := Hp.up_step leR_tot leR_tr HU.out hj (by omega) hnl
        rw [show (k + 1 - 1) / 2 = k / 2 by omega, ← hdR_swap hm hl] at hun
        have HUn := hide hun
        have HPn := hide ((Hp.set_swap_perm ls' (k / 2) (k + 1) _ _ hm hl).trans HP.out)
        have HLn := hide (H.out.lists.swap hu hv hm hl)
        have hlen : (((ls'.set (k / 2) (x :: r)).set (k + 1) (y :: s))).length = n := by simp [H.out.len]
        have HLen := hide hlen
        have hdt : decide (cmpS x y < 0) = true := decide_eq_true hc
        clear hun hnl HU HP hl hv hm hu hsv hsu hx hy hlen H
        go_wp2_with fail
        refine (CL.out _ _ (by omega) (by omega)).mono ?_
        rintro e w1 ⟨rfl, hb1⟩
        rw [hdt]
        have HB1 := hide hb1
        clear hb1 hc hdt CL
        go_wp2_with fail
        refine (CS.out _ _ _ HB1.out (by omega) (by omega)).mono ?_
        rintro e w2 ⟨rfl, hr2⟩
        have HR2 := hide hr2
        clear hr2 CS HB1
        go_wp2
        go_roundw
        case rel => exact ⟨k / 2, _, _, by omega, by go_num, ⟨HR2.out, HLn.out, HLen.out⟩, HPn.out, HUn.out⟩
        case measure => simp [intOf]; omega
      · have hle : leR (hdR ls' ((k + 1 - 1) / 2)) (hdR ls' (k + 1)) := by
          rw [show (k + 1 - 1) / 2 = k / 2 by omega, hx, hy]
          unfold leR
          have := cmpS_ok.neg x y
          omega
        have HI := hide (Hp.up_done HU.out (.inr hle))
        have hdf : decide (cmpS x y < 0) = false := decide_eq_false hc
        clear HU hl hv hm hu hsv hsu hx hy hle CS
        go_wp2_with fail
        refine (CL.out _ _ (by omega) (by omega)).mono ?_
        rintro e w1 ⟨rfl, hb1⟩
        rw [hdf]
        have HH := hide (H.out.kept hb1)
        clear hb1 hc hdf CL
        go_wp2
        go_end0
        exact ⟨rfl, vs', ls', HH.out, HP.out, HI.out⟩
end Go.Proofs.YtamcclcbmenjdaaGreatDoor

/- container/heap over join's rests (of series): down. -/
namespace Go.Proofs.YtamcclcbmenjdaaGreatDoor
open Go.RowKit Go.Lib

set_option maxRecDepth 100000 in
set_option maxHeartbeats 2000000 in
theorem downR_any {w0 : World} {K : Nat → Obj → Prop} {hb n : Nat} {lv : Value} {vs : List Value} {ls : List (List Ser)} (W : World) (h : HsR w0 K W hb (n + 1) lv vs ls) (hsm : ∀ l ∈ ls, ∀ x ∈ l, SmR x) (hn : n ≤ 1000000000000) (hu : Hp.DownInv leR (hdR ls) n 0) :
    Calls Tryz.prog 197 #[.iface 170 (.pointer (some ⟨hb, 0, none⟩)), .int .i64 0, .int .i64 n] W fun e w' => (∃ r, e = .returned (.bool r)) ∧ ∃ vs' ls', HsR w0 K w' hb (n + 1) lv vs' ls' ∧ ls'.Perm ls ∧ Hp.IsHeap leR (hdR ls') n ∧ vs'[n]? = vs[n]? ∧ ls'[n]? = ls[n]? := by
  have m1 := methR_less
  have m2 := methR_swap
  have HSm := hide hsm
  have H0 := hide h
  have HU0 := hide hu
  clear h hsm hu
  go_enter Tryz.func197, Tryz.ntmps197
  go_wp2
  go_loopw [7, 8, 9, 10] (fun iv _ _ _ wr => ∃ (i : Nat) (vs' : List Value) (ls' : List (List Ser)), i ≤ n ∧ iv = .int .i64 i ∧ Hid (HsR w0 K wr hb (n + 1) lv vs' ls') ∧ Hid (ls'.Perm ls) ∧ Hid (Hp.DownInv leR (hdR ls') n i) ∧ Hid (vs'[n]? = vs[n]? ∧ ls'[n]? = ls[n]?)) (fun iv _ _ _ _ => n - (intOf iv).toNat)
  case atStart => exact ⟨0, vs, ls, Nat.zero_le _, rfl, H0.out, List.Perm.refl _, HU0.out, rfl, rfl⟩
  case round =>
    clear H0 HU0
    obtain ⟨i, vs', ls', hi, rfl, H, HP, HU, HL⟩ := hrel
    have CL : Hid (∀ (J I : Int) (p q : Nat) (x y : Ser) (r s : List Ser) (W2 : World), Below wr.heap.size wr W2 → J = (p : Int) → I = (q : Int) → ls'[p]? = some (x :: r) → ls'[q]? = some (y :: s) → Calls Tryz.prog 228 #[.pointer (some ⟨hb, 0, none⟩), .int .i64 J, .int .i64 I] W2 fun e w' => e = .returned (.bool (decide (cmpS x y < 0))) ∧ Below W2.heap.size W2 w') := fun J I p q x y r s W2 hW hJ hI hp hq => by
      subst hJ hI
      exact lessR_any W2 (H.out.rst.kept hW) H.out.lists (fun l hl x hx => HSm.out l (HP.out.mem_iff.1 hl) x hx) p q hp hq rfl rfl
    have CS : Hid (∀ (W2 : World) (I J : Int) (p q : Nat) (v u : Value), Below wr.heap.size wr W2 → I = (p : Int) → J = (q : Int) → vs'[p]? = some v → vs'[q]? = some u → (∃ a n c, v = .slice a n c) → (∃ a n c, u = .slice a n c) → Calls Tryz.prog 231 #[.pointer (some ⟨hb, 0, none⟩), .int .i64 I, .int .i64 J] W2 fun e w' => e = .returned (.tuple #[]) ∧ RstR w0 K w' hb lv ((vs'.set p u).set q v)) := fun W2 I J p q v u hW hI hJ hp hq hv hu => by
      subst hI hJ
      exact swapR_any W2 (H.out.rst.kept hW) p q hp hq hv hu
    by_cases hA : n ≤ 2 * i + 1
    · have HI := hide (Hp.down_done HU.out fun k hk h => by omega)
      have a1 : (n : Int) ≤ 2 * (i : Int) + 1 := by omega
      clear HU CL CS
      go_wp2
      go_ret
      exact ⟨⟨_, rfl⟩, vs', ls', H.out, HP.out, HI.out, HL.out.1, HL.out.2⟩
    · have a1 : ¬ (n : Int) ≤ 2 * (i : Int) + 1 := by omega
      have a2 : decide ((n : Int) ≤ 2 * (i : Int) + 1) = false := decide_eq_false a1
      obtain ⟨x, rx, v, hlx, hvx, hsx, hdx⟩ := H.out.cons (i := i) (by omega)
      obtain ⟨y, ry, u, hly, hvy, hsy, hdy⟩ := H.out.cons (i := 2 * i + 1) (by omega)
      by_cases hB : n ≤ 2 * i + 2
      · have hmin : ∀ d, d < n → (d = 2 * i + 1 ∨ d = 2 * i + 2) → leR (hdR ls' (2 * i + 1)) (hdR ls' d) := fun d hd h => by
          obtain rfl : d = 2 * i + 1 := by omega
          exact (leR_tot _ _).elim id id
        have b1 : ¬ 2 * (i : Int) + 1 + 1 < (n : Int) := by omega
        have b2 : decide (2 * (i : Int) + 1 + 1 < (n : Int)) = false := decide_eq_false b1
        have neg := cmpS_ok.neg y x
        by_cases hc : cmpS y x < 0
        · have hnl : ¬ leR (hdR ls' i) (hdR ls' (2 * i + 1)) := by
            rw [hdx, hdy]; unfold leR; omega
          have hun := Hp.down_step leR_tot HU.out (c := 2 * i + 1) (by omega) (by omega) hmin hnl
          rw [← hdR_swap hlx hly] at hun
          have HUn := hide hun
          have HPn := hide ((Hp.set_swap_perm ls' i (2 * i + 1) _ _ hlx hly).trans HP.out)
          have HLn := hide (H.out.lists.swap hvx hvy hlx hly)
          have HLen : Hid (((ls'.set i (y :: ry)).set (2 * i + 1) (x :: rx)).length = n + 1) := by show _ = _; simp [H.out.len]
          have HLl : Hid (((vs'.set i u).set (2 * i + 1) v)[n]? = vs[n]? ∧ ((ls'.set i (y :: ry)).set (2 * i + 1) (x :: rx))[n]? = ls[n]?) := by
            rw [List.getElem?_set_ne (by omega), List.getElem?_set_ne (by omega), List.getElem?_set_ne (by omega), List.getElem?_set_ne (by omega)]
            exact HL.out
          have hdt : decide (cmpS y x < 0) = true := decide_eq_true hc
          have CL2 := hide (fun J I hJ hI => CL.out J I (2 * i + 1) i y x ry rx wr (Below.refl _ _) hJ hI hly hlx)
          have CS2 := hide (fun W2 I J hW hI hJ => CS.out W2 I J i (2 * i + 1) v u hW hI hJ hvx hvy hsx hsy)
          clear hun hnl HU HP hmin HL H CL CS neg hlx hly hvx hvy hsx hsy hdx hdy
          go_wp2_with fail
          refine (CL2.out _ _ (by omega) (by omega)).mono ?_
          rintro e w5 ⟨rfl, hb5⟩
          rw [hdt]
          have HB5 := hide ((Below.refl _ _).trans (hb5.mono (Nat.le_refl _)))
          clear hb5 hc hdt CL2
          go_wp2_with fail
          refine (CS2.out _ _ _ HB5.out (by omega) (by omega)).mono ?_
          rintro e w6 ⟨rfl, hr6⟩
          have HR6 := hide hr6
          clear hr6 CS2 HB5
          go_wp2
          go_roundw
          case rel => exact ⟨2 * i + 1, _, _, by omega, by go_num, ⟨HR6.out, HLn.out, HLen.out⟩, HPn.out, HUn.out, HLl.out⟩
          case measure => simp [intOf]; omega
        · have hle : leR (hdR ls' i) (hdR ls' (2 * i + 1)) := by
            rw [hdx, hdy]; unfold leR; omega
          have HI := hide (Hp.down_done HU.out fun k hk hh => leR_tr hle (hmin k hk hh))
          have hdf : decide (cmpS y x < 0) = false := decide_eq_false hc
          have CL2 := hide (fun J I hJ hI => CL.out J I (2 * i + 1) i y x ry rx wr (Below.refl _ _) hJ hI hly hlx)
          clear HU hmin CL CS neg hlx hly hvx hvy hsx hsy hdx hdy hle
          go_wp2_with fail
          refine (CL2.out _ _ (by omega) (by omega)).mono ?_
          rintro e w5 ⟨rfl, hb5⟩
          rw [hdf]
          have HH := hide (H.out.kept ((Below.refl _ _).trans (hb5.mono (Nat.le_refl _))))
          clear hb5 hc hdf CL2
          go_wp2
          go_ret
          exact ⟨⟨_, rfl⟩, vs', ls', HH.out, HP.out, HI.out, HL.out.1, HL.out.2⟩
      · have b1 : 2 * (i : Int) + 1 + 1 < (n : Int) := by omega
        obtain ⟨z, rz, t, hlz, hvz, hsz, hdz⟩ := H.out.cons (i := 2 * i + 2) (by omega)
        have negz := cmpS_ok.neg z y
        have CL1 := hide (fun J I hJ hI => CL.out J I (2 * i + 2) (2 * i + 1) z y rz ry wr (Below.refl _ _) hJ hI hlz hly)
        by_cases hcz : cmpS z y < 0
        · have hmin : ∀ d, d < n → (d = 2 * i + 1 ∨ d = 2 * i + 2) → leR (hdR ls' (2 * i + 2)) (hdR ls' d) := fun d hd h => by
            rcases h with rfl | rfl
            · rw [hdz, hdy]; unfold leR; omega
            · exact (leR_tot _ _).elim id id
          have hdt0 : decide (cmpS z y < 0) = true := decide_eq_true hcz
          go_wp2_with fail
          refine (CL1.out _ _ (by omega) (by omega)).mono ?_
          rintro e w4 ⟨rfl, hb4⟩
          rw [hdt0]
          have HB4 := hide hb4
          clear hb4 hdt0 CL1 negz
          have neg := cmpS_ok.neg z x
          by_cases hc : cmpS z x < 0
          · have hnl : ¬ leR (hdR ls' i) (hdR ls' (2 * i + 2)) := by
              rw [hdx, hdz]; unfold leR; omega
            have hun := Hp.down_step leR_tot HU.out (c := 2 * i + 2) (by omega) (by omega) hmin hnl
            rw [← hdR_swap hlx hlz] at hun
            have HUn := hide hun
            have HPn := hide ((Hp.set_swap_perm ls' i (2 * i + 2) _ _ hlx hlz).trans HP.out)
            have HLn := hide (H.out.lists.swap hvx hvz hlx hlz)
            have HLen : Hid (((ls'.set i (z :: rz)).set (2 * i + 2) (x :: rx)).length = n + 1) := by show _ = _; simp [H.out.len]
            have HLl : Hid (((vs'.set i t).set (2 * i + 2) v)[n]? = vs[n]? ∧ ((ls'.set i (z :: rz)).set (2 * i + 2) (x :: rx))[n]? = ls[n]?) := by
              rw [List.getElem?_set_ne (by omega), List.getElem?_set_ne (by omega), List.getElem?_set_ne (by omega), List.getElem?_set_ne (by omega)]
              exact HL.out
            have hdt : decide (cmpS z x < 0) = true := decide_eq_true hc
            have CL2 := hide (fun J I hJ hI => CL.out J I (2 * i + 2) i z x rz rx w4 HB4.out hJ hI hlz hlx)
            have CS2 := hide (fun W2 I J hW hI hJ => CS.out W2 I J i (2 * i + 2) v t hW hI hJ hvx hvz hsx hsz)
            clear hun hnl HU HP hmin HL H CL CS neg hlx hly hvx hvy hsx hsy hdx hdy hlz hvz hsz hdz hcz
            go_wp2_with fail
            refine (CL2.out _ _ (by omega) (by omega)).mono ?_
            rintro e w5 ⟨rfl, hb5⟩
            rw [hdt]
            have HB5 := hide (HB4.out.trans (hb5.mono (by have := HB4.out.size; omega)))
            clear hb5 hc hdt CL2
            go_wp2_with fail
            refine (CS2.out _ _ _ HB5.out (by omega) (by omega)).mono ?_
            rintro e w6 ⟨rfl, hr6⟩
            have HR6 := hide hr6
            clear hr6 CS2 HB5
            go_wp2
            go_roundw
            case rel => exact ⟨2 * i + 2, _, _, by omega, by go_num, ⟨HR6.out, HLn.out, HLen.out⟩, HPn.out, HUn.out, HLl.out⟩
            case measure => simp [intOf]; omega
          · have hle : leR (hdR ls' i) (hdR ls' (2 * i + 2)) := by
              rw [hdx, hdz]; unfold leR; omega
            have HI := hide (Hp.down_done HU.out fun k hk hh => leR_tr hle (hmin k hk hh))
            have hdf : decide (cmpS z x < 0) = false := decide_eq_false hc
            have CL2 := hide (fun J I hJ hI => CL.out J I (2 * i + 2) i z x rz rx w4 HB4.out hJ hI hlz hlx)
            clear HU hmin CL CS neg hlx hly hvx hvy hsx hsy hdx hdy hle hlz hvz hsz hdz hcz
            go_wp2_with fail
            refine (CL2.out _ _ (by omega) (by omega)).mono ?_
            rintro e w5 ⟨rfl, hb5⟩
            rw [hdf]
            have HH := hide (H.out.kept (HB4.out.trans (hb5.mono (by have := HB4.out.size; omega))))
            clear hb5 hc hdf CL2
            go_wp2
            go_ret
            exact ⟨⟨_, rfl⟩, vs', ls', HH.out, HP.out, HI.out, HL.out.1, HL.out.2⟩
        · have hmin : ∀ d, d < n → (d = 2 * i + 1 ∨ d = 2 * i + 2) → leR (hdR ls' (2 * i + 1)) (hdR ls' d) := fun d hd h => by
            rcases h with rfl | rfl
            · exact (leR_tot _ _).elim id id
            · rw [hdz, hdy]; unfold leR; omega
          have hdf0 : decide (cmpS z y < 0) = false := decide_eq_false hcz
          go_wp2_with fail
          refine (CL1.out _ _ (by omega) (by omega)).mono ?_
          rintro e w4 ⟨rfl, hb4⟩
          rw [hdf0]
          have HB4 := hide hb4
          clear hb4 hdf0 CL1 negz
          have neg := cmpS_ok.neg y x
          by_cases hc : cmpS y x < 0
          · have hnl : ¬ leR (hdR ls' i) (hdR ls' (2 * i + 1)) := by
              rw [hdx, hdy]; unfold leR; omega
            have hun := Hp.down_step leR_tot HU.out (c := 2 * i + 1) (by omega) (by omega) hmin hnl
            rw [← hdR_swap hlx hly] at hun
            have HUn := hide hun
            have HPn := hide ((Hp.set_swap_perm ls' i (2 * i + 1) _ _ hlx hly).trans HP.out)
            have HLn := hide (H.out.lists.swap hvx hvy hlx hly)
            have HLen : Hid (((ls'.set i (y :: ry)).set (2 * i + 1) (x :: rx)).length = n + 1) := by show _ = _; simp [H.out.len]
            have HLl : Hid (((vs'.set i u).set (2 * i + 1) v)[n]? = vs[n]? ∧ ((ls'.set i (y :: ry)).set (2 * i + 1) (x :: rx))[n]? = ls[n]?) := by
              rw [List.getElem?_set_ne (by omega), List.getElem?_set_ne (by omega), List.getElem?_set_ne (by omega), List.getElem?_set_ne (by omega)]
              exact HL.out
            have hdt : decide (cmpS y x < 0) = true := decide_eq_true hc
            have CL2 := hide (fun J I hJ hI => CL.out J I (2 * i + 1) i y x ry rx w4 HB4.out hJ hI hly hlx)
            have CS2 := hide (fun W2 I J hW hI hJ => CS.out W2 I J i (2 * i + 1) v u hW hI hJ hvx hvy hsx hsy)
            clear hun hnl HU HP hmin HL H CL CS neg hlx hly hvx hvy hsx hsy hdx hdy hlz hvz hsz hdz hcz
            go_wp2_with fail
            refine (CL2.out _ _ (by omega) (by omega)).mono ?_
            rintro e w5 ⟨rfl, hb5⟩
            rw [hdt]
            have HB5 := hide (HB4.out.trans (hb5.mono (by have := HB4.out.size; omega)))
            clear hb5 hc hdt CL2
            go_wp2_with fail
            refine (CS2.out _ _ _ HB5.out (by omega) (by omega)).mono ?_
            rintro e w6 ⟨rfl, hr6⟩
            have HR6 := hide hr6
            clear hr6 CS2 HB5
            go_wp2
            go_roundw
            case rel => exact ⟨2 * i + 1, _, _, by omega, by go_num, ⟨HR6.out, HLn.out, HLen.out⟩, HPn.out, HUn.out, HLl.out⟩
            case measure => simp [intOf]; omega
          · have hle : leR (hdR ls' i) (hdR ls' (2 * i + 1)) := by
              rw [hdx, hdy]; unfold leR; omega
            have HI := hide (Hp.down_done HU.out fun k hk hh => leR_tr hle (hmin k hk hh))
            have hdf : decide (cmpS y x < 0) = false := decide_eq_false hc
            have CL2 := hide (fun J I hJ hI => CL.out J I (2 * i + 1) i y x ry rx w4 HB4.out hJ hI hly hlx)
            clear HU hmin CL CS neg hlx hly hvx hvy hsx hsy hdx hdy hle hlz hvz hsz hdz hcz
            go_wp2_with fail
            refine (CL2.out _ _ (by omega) (by omega)).mono ?_
            rintro e w5 ⟨rfl, hb5⟩
            rw [hdf]
            have HH := hide (H.out.kept (HB4.out.trans (hb5.mono (by have := HB4.out.size; omega))))
            clear hb5 hc hdf CL2
            go_wp2
            go_ret
            exact ⟨⟨_, rfl⟩, vs', ls', HH.out, HP.out, HI.out, HL.out.1, HL.out.2⟩
end Go.Proofs.YtamcclcbmenjdaaGreatDoor

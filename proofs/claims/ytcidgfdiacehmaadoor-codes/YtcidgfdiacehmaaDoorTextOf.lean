/- The byte reader: textOf. -/
import Derived.Test.YtcidgfdiacehmaaDoorRdFns
namespace Go.Proofs.YtcidgfdiacehmaaDoor
open Go.RowKit Go.Lib

theorem Rd.cell {w w' : World} {yb yo k : Nat} (h : Rd w w' yb yo) (hk : k < w.heap.size) (hy : k ≠ yb) (o : Nat) : w'.cell? ⟨k, o, none⟩ = w.cell? ⟨k, o, none⟩ := World.cell?_of_block (a := ⟨k, o, none⟩) (h.block k hk hy)

set_option maxRecDepth 100000 in
set_option maxHeartbeats 400000 in
theorem textOf_any (yb yo tb : Nat) (p : Rest) (tv : Value) (texts : List ByteArray) (w : World) (H : YR w yb yo p.1 p.2) (hs : Short 140737488355328 p) (ht : TextsAt w tv tb texts) (htb : tb ≠ yb) (htw : tb < w.heap.size) (htl : texts.length ≤ 1000) :
    Calls Tryd.prog 71 #[.pointer (some ⟨yb, yo, none⟩), tv] w fun e w' => e = .returned (.string (tofR texts p).1) ∧ YR w' yb yo (tofR texts p).2.1 (tofR texts p).2.2 ∧ Rd w w' yb yo := by
  have C := hide (number_is yb yo p.2 p.1 ((texts.length : Int) - 1) w H hs.1)
  have hok := numR_ok p.1 ((texts.length : Int) - 1) p.2
  have hst := numR_st p.1 ((texts.length : Int) - 1) p.2 hs.2
  obtain ⟨a, c, hv⟩ : ∃ a c, tv = .slice a texts.length c := by
    rcases ht.shape with ⟨rfl, a, c, rfl⟩ | ⟨o, c, rfl, _⟩ <;> exact ⟨_, _, rfl⟩
  have HE : Hid (tofR texts p = (if (numR p.1 ((texts.length : Int) - 1) p.2).2.2 = 1 then ⟨#[]⟩ else texts.getD (numR p.1 ((texts.length : Int) - 1) p.2).1 ⟨#[]⟩, (numR p.1 ((texts.length : Int) - 1) p.2).2)) := rfl
  generalize numR p.1 ((texts.length : Int) - 1) p.2 = r at *
  obtain ⟨n, s1, q⟩ := r
  simp only at C hok hst HE
  have HT := hide ht
  clear H ht hs
  subst hv
  go_enter Tryd.func71, Tryd.ntmps71
  go_wp2_with fail
  refine C.out.mono ?_
  rintro e w1 ⟨rfl, hY, hR⟩
  have c1 := hY.c1
  have HY := hide hY
  have HR := hide hR
  clear hY hR C
  by_cases hq : q = 1
  · subst hq
    clear hok hst
    go_wp2
    go_ret
    rw [HE.out]
    exact ⟨rfl, HY.out, HR.out⟩
  · have hq0 : q = 0 := by omega
    subst hq0
    have hn := hok (by omega)
    have hlt : n < texts.length := by omega
    obtain ⟨x, hx⟩ : ∃ x, texts[n]? = some x := ⟨_, List.getElem?_eq_getElem hlt⟩
    have hc : ∃ o, a = some ⟨tb, o, none⟩ ∧ w.cell? ⟨tb, o + n, none⟩ = some (.string x) := by
      rcases HT.out.shape with ⟨h0, _⟩ | ⟨o, c', hv, hcell⟩
      · rw [h0] at hx; cases hx
      · cases hv; exact ⟨o, rfl, hcell n x hx⟩
    obtain ⟨o, rfl, hc⟩ := hc
    have m1 := (HR.out.cell htw htb (o + n)).trans hc
    have HG : Hid (texts.getD n ⟨#[]⟩ = x) := by show _ = _; rw [List.getD_eq_getElem?_getD, hx]; rfl
    clear hc hx hn hok hst hq
    go_wp2
    go_ret
    rw [HE.out, if_neg (by decide), HG.out]
    exact ⟨rfl, HY.out, HR.out⟩
end Go.Proofs.YtcidgfdiacehmaaDoor

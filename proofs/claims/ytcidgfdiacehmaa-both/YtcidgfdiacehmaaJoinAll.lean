/- join.All. -/
import Derived.Test.YtcidgfdiacehmaaJoinBat
import Derived.Test.YtcidgfdiacehmaaJoinLen
import Derived.Test.YtcidgfdiacehmaaChk
namespace Go.Proofs.Ytcidgfdiacehmaa
open Go.RowKit Go.Lib

def Ranged (s : Ser) : Prop := ∀ x ∈ s.2, -9223372036854775808 ≤ x.1 ∧ x.1 ≤ 9223372036854775807 ∧ x.2 ≤ 18446744073709551615
theorem STops.ranged {d j : List Ser} (h : STops d j) (hd : ∀ s ∈ d, Ranged s) : ∀ s ∈ j, Ranged s := fun s hs x hx => by
  have h1 := (((h.tops s hs).mem x.1 x.2).1 hx).1
  obtain ⟨l, hl, hxl⟩ := List.mem_flatten.1 h1
  obtain ⟨y, hy, rfl⟩ := List.mem_map.1 hl
  exact hd y (List.mem_filter.1 hy).1 x hxl
theorem STops.small {d j : List Ser} (h : STops d j) (hd : ∀ s ∈ d, SerFit s) (h1 : d.length ≤ 1000000000) (h2 : samN d ≤ 1000000000000) : Small j := by
  refine ⟨by have := h.len; omega, fun s hs => ?_, fun s hs => ?_⟩
  · obtain ⟨x, hx, e⟩ := h.back s hs
    have := (hd x hx).1
    rw [← e]; omega
  · have h3 := h.sams hs
    have h4 : (d.map (·.2)).flatten.length ≤ 1000000000000 := h2
    omega

set_option maxRecDepth 100000 in
set_option maxHeartbeats 1000000 in
theorem joinAll_any (W : World) (v : Value) (bss : List (List Ser)) (hv : RowsR W v bss) (hok : ∀ bs ∈ bss, BatchOk bs) (hall : ∀ s ∈ bss.flatten, SerFit s ∧ Ranged s) (hn : bss.length ≤ 1000000000) (hfl : bss.flatten.length ≤ 1000000000) (hsa : samN bss.flatten ≤ 1000000000000) :
    Calls Try.prog 25 #[v] W fun e w' => ∃ j n, IsJoin bss j ∧ Code j n ∧ Below W.heap.size W w' ∧ ((n = 0 ∧ ∃ jv, e = .returned (.tuple #[jv, .int .i64 0]) ∧ Fresh w' W.heap.size jv j) ∨ (n ≠ 0 ∧ e = .returned (.tuple #[.slice none 0 0, .int .i64 n]))) := by
  obtain ⟨va, vc, rfl, -⟩ := id hv
  have C1 := hide (joinBatches_any W _ bss hv (fun l hl => LLt_cmp ((batchOk_iff l).1 (hok l hl)).2) (fun s hs => (hall s hs).1) hn hfl hsa)
  have HOk := hide hok
  have HAll := hide hall
  have HSa := hide hsa
  clear hv hok hall hsa
  go_enter Try.func25, Try.ntmps25
  go_wp2_with fail
  refine C1.out.mono ?_
  rintro e w1 ⟨jv, j, rfl, hT, hF, hb1⟩
  have hba := hF.batchAt (hT.ranged fun s hs => (HAll.out s hs).2)
  obtain ⟨ja, jc, rfl, -⟩ := id hba
  have C2 := hide (check_any w1.heap.size w1.heap.size (.slice ja j.length jc) j (w1.alloc (.cells #[.slice ja j.length jc] 22)) (World.cell?_alloc_new _ _ _ 0) (hba.kept fun k hk => heap_alloc_old w1 _ hk) (by simp) (by simp) (hT.small (fun s hs => (HAll.out s hs).1) hfl HSa.out))
  have HJ := hide (hT.join HOk.out)
  have HF := hide hF
  have HB1 := hide hb1
  have hs1 := hb1.size
  clear C1 hT hF hb1 hba
  go_wp2_with fail
  refine C2.out.mono ?_
  rintro e w2 ⟨⟨n, rfl, hn2⟩, hb2⟩
  have hb12 : Below w1.heap.size w1 w2 := ((Below.refl _ _).alloc (Nat.le_refl _) _).trans (hb2.mono (by simp))
  have HB2 : Hid (Below W.heap.size W w2) := HB1.out.trans (hb12.mono hs1)
  have HC := hide hn2
  have HF2 : Hid (Fresh w2 W.heap.size (.slice ja j.length jc) j) := by
    obtain ⟨vals, h1, h2⟩ := HF.out
    exact ⟨vals, own_kept h1 fun k e => hb12.block k (World.ownsRow.lt h1 k e).2, h2.kept fun k _ hk => hb12.block k hk⟩
  clear C2 hb2 hb12 HF HB1 hn2
  by_cases h0 : n = 0
  · subst h0
    go_wp2
    go_ret2
    exact ⟨j, 0, HJ.out, HC.out, HB2.out, .inl ⟨rfl, _, rfl, HF2.out⟩⟩
  · have h1 : ¬ (n : Int) = 0 := by omega
    have h2 : ((n : Int) == 0) = false := by simp [h0]
    go_wp2
    go_ret2
    exact ⟨j, n, HJ.out, HC.out, HB2.out, .inr ⟨h0, rfl⟩⟩
end Go.Proofs.Ytcidgfdiacehmaa

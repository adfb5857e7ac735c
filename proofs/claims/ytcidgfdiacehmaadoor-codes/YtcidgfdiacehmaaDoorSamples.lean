/- The byte reader: samples. -/
import Derived.Test.YtcidgfdiacehmaaDoorUnChunk
namespace Go.Proofs.YtcidgfdiacehmaaDoor
open Go.RowKit Go.Lib

theorem Tabs.rd {w w' : World} {yb yo : Nat} (h : Tabs w) (hr : Rd w w' yb yo) (hy : 3 ≤ yb) : Tabs w' := by
  have h3 := h.lt
  exact h.kept (hr.block _ (by omega) (by omega)) (hr.block _ (by omega) (by omega))
theorem chunkR_length (s : ByteArray) (n : Nat) (h : 1 ≤ n) : (chunkR s n).1.length = n := by
  unfold chunkR; rw [seqU_length]; omega

set_option maxRecDepth 100000 in
set_option maxHeartbeats 400000 in
theorem samples_any (yb yo : Nat) (p : Rest) (w : World) (H : YR w yb yo p.1 p.2) (hs : Short 140737488355328 p) (hT : Tabs w) (hy3 : 3 ≤ yb) :
    Calls Tryd.prog 60 #[.pointer (some ⟨yb, yo, none⟩)] w fun e w' => ∃ v, e = .returned v ∧ w'.ownsRow w.heap.size 56 2 v (samplesR p).1.length (samCells (samplesR p).1) ∧
      YR w' yb yo (samplesR p).2.1 (samplesR p).2.2 ∧ Rd w w' yb yo := by
  have hyw := H.lt
  have C1 := hide (number_is yb yo p.2 p.1 40 w H hs.1)
  have hn : (numR p.1 40 p.2).1 ≤ 40 := num_nat p 40
  have hs1 := short_num hs 40
  have HE : Hid (samplesR p = if (numR p.1 40 p.2).1 = 0 then ([], gone) else if (chunkR (textR (numR p.1 40 p.2).2.1 (numR p.1 40 p.2).2.1.size (numR p.1 40 p.2).2.2).1 (numR p.1 40 p.2).1).2.st = 1 then ((chunkR (textR (numR p.1 40 p.2).2.1 (numR p.1 40 p.2).2.1.size (numR p.1 40 p.2).2.2).1 (numR p.1 40 p.2).1).1, gone) else ((chunkR (textR (numR p.1 40 p.2).2.1 (numR p.1 40 p.2).2.1.size (numR p.1 40 p.2).2.2).1 (numR p.1 40 p.2).1).1, (textR (numR p.1 40 p.2).2.1 (numR p.1 40 p.2).2.1.size (numR p.1 40 p.2).2.2).2)) := rfl
  generalize numR p.1 40 p.2 = r at *
  obtain ⟨n, s1, q1⟩ := r
  simp only at C1 hn hs1 HE
  have hx := Nat.le_trans (textR_len s1 s1.size q1) hs1.1
  have HT := hide hT
  clear H hs hT
  go_enter Tryd.func60, Tryd.ntmps60
  go_wp2_with fail
  refine C1.out.mono ?_
  rintro e w1 ⟨rfl, hY1, hR1⟩
  have c0 := hY1.c0
  have C2 := hide (text_is yb yo q1 s1 s1.size w1 hY1 hs1.1)
  have HR1 := hide hR1
  generalize textR s1 s1.size q1 = t at *
  obtain ⟨x, p2⟩ := t
  simp only at C2 hx HE
  clear hY1 hR1 C1 hs1
  go_wp2_with fail
  refine C2.out.mono ?_
  rintro e w2 ⟨rfl, hY2, hR2⟩
  have HR2 := hide (HR1.out.trans hR2)
  have HY2 := hide hY2
  clear hR2 C2 HR1 c0
  by_cases h0 : n = 0
  · have CF := hide (fail_any yb yo p2.2 p2.1 w2 hY2)
    have HE2 := hide (HE.out.trans (if_pos h0))
    subst h0
    clear hY2 HE HY2
    go_wp2_with fail
    refine CF.out.mono ?_
    rintro e w3 ⟨rfl, hY3, hR3⟩
    have HY3 := hide hY3
    have HR3 := hide (HR2.out.trans hR3)
    clear hY3 hR3 CF HR2
    go_wp2
    go_ret
    rw [HE2.out]
    exact ⟨_, rfl, World.ownsRow_nil _ _ _ _, HY3.out, HR3.out⟩
  · have hn1 : 1 ≤ n := by omega
    have hT2 := HT.out.rd HR2.out hy3
    have C3 := hide (unpackChunk_any x n w2 hn1 hn hx hT2)
    have HE2 := hide (HE.out.trans (if_neg h0))
    have HL := hide (chunkR_length x n hn1)
    have h0b : ((n : Int) == 0) = false := by simp; omega
    have hsz := HR2.out.size
    generalize chunkR x n = q at *
    obtain ⟨l, u⟩ := q
    simp only at C3 HE2 HL
    clear hY2 hT2 HE
    go_wp2_with fail
    refine C3.out.mono ?_
    rintro e w3 ⟨v, rfl, hO3, hb3⟩
    have HO3 := hide (own_mono hO3 hsz)
    have HY3 := hide (HY2.out.kept (hb3.block yb HY2.out.lt))
    have HR3 := hide (HR2.out.below hb3)
    clear hO3 hb3 C3 HR2 HY2
    by_cases h1 : u.st = 1
    · have CF := hide (fail_any yb yo p2.2 p2.1 w3 HY3.out)
      have HE3 := hide (HE2.out.trans (if_pos h1))
      have h1b : ((u.st : Int) == 1) = true := by simp; omega
      clear HE2
      go_wp2_with fail
      refine CF.out.mono ?_
      rintro e w4 ⟨rfl, hY4, hR4⟩
      have HO4 := hide (own_rd HO3.out hR4 hyw)
      have HY4 := hide hY4
      have HR4 := hide (HR3.out.trans hR4)
      clear hY4 hR4 CF HO3 HY3 HR3
      go_wp2
      go_ret
      rw [HE3.out]
      exact ⟨_, rfl, by rw [HL.out]; exact HO4.out, HY4.out, HR4.out⟩
    · have HE3 := hide (HE2.out.trans (if_neg h1))
      have h1b : ((u.st : Int) == 1) = false := by simp; omega
      clear HE2
      go_wp2
      go_ret
      rw [HE3.out]
      exact ⟨_, rfl, by rw [HL.out]; exact HO3.out, HY3.out, HR3.out⟩
end Go.Proofs.YtcidgfdiacehmaaDoor

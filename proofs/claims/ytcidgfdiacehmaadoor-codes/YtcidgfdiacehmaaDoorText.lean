/- The byte reader: text. -/
import Derived.Test.YtcidgfdiacehmaaDoorNumber
namespace Go.Proofs.YtcidgfdiacehmaaDoor
open Go.RowKit Go.Lib

/-- What text leaves: the text and the rest, or an empty one and nothing. -/
def TextPost (s : ByteArray) (most : Int) (st : Nat) (yb yo : Nat) (w : World) (e : Ending) (w' : World) : Prop :=
  (∃ n k, rdNum s.data.toList most (min s.size 9) 0 = some (n, k) ∧ n ≤ s.size - k ∧ e = .returned (.string ((s.extract k s.size).extract 0 n)) ∧ YR w' yb yo ((s.extract k s.size).extract n (s.extract k s.size).size) st ∧ Rd w w' yb yo) ∨
  ((∀ n k, rdNum s.data.toList most (min s.size 9) 0 = some (n, k) → ¬ n ≤ s.size - k) ∧ e = .returned (.string ⟨#[]⟩) ∧ YR w' yb yo ⟨#[]⟩ 1 ∧ Rd w w' yb yo)

set_option maxRecDepth 100000 in
set_option maxHeartbeats 400000 in
theorem text_any (yb yo st : Nat) (s : ByteArray) (most : Int) (w : World) (H : YR w yb yo s st) (hs : s.size ≤ 140737488355328) :
    Calls Tryd.prog 69 #[.pointer (some ⟨yb, yo, none⟩), .int .i64 most] w fun e w' => TextPost s most st yb yo w e w' := by
  have C := hide (number_any yb yo st s most w H hs)
  clear H
  go_enter Tryd.func69, Tryd.ntmps69
  go_wp2_with fail
  refine C.out.mono ?_
  rintro e w1 (⟨n, k, hr, rfl, hY, hR⟩ | ⟨hr, rfl, hY, hR⟩)
  · have hsz : (s.extract k s.size).size = s.size - k := by simp
    generalize ht : s.extract k s.size = t at *
    have HT := hide ht
    clear ht
    have c0 := hY.c0
    have f0 := hY.f0
    have HR := hide hR
    have HE := hide hr
    have HSz := hide hsz
    by_cases hn : n ≤ t.size
    · have HY := hide (hY.setLeft (t.extract n t.size))
      clear hY hR hr hsz C
      go_wp2
      go_ret
      have h := HT.out
      subst h
      exact .inl ⟨n, k, HE.out, by rw [← HSz.out]; exact hn, rfl, HY.out, HR.out.trans (Rd.set _)⟩
    · have CF := hide (fail_any yb yo st t w1 hY)
      clear hY hR hr hsz C
      have hnd : (t.size : Int) < n := by omega
      go_wp2_with fail
      refine CF.out.mono ?_
      rintro e w2 ⟨rfl, hY2, hR2⟩
      have HY2 := hide hY2
      have HR2 := hide (HR.out.trans hR2)
      clear hY2 hR2 CF HR
      go_wp2
      go_ret
      exact .inr ⟨(fun n' k' h => by rw [HE.out] at h; cases h; rw [← HSz.out]; exact hn), rfl, HY2.out, HR2.out⟩
  · have c0 := hY.c0
    have f0 := hY.f0
    have HR := hide hR
    have HE := hide hr
    have HY := hide (hY.setLeft ⟨#[]⟩)
    clear hY hR hr C
    go_wp2
    go_ret
    exact .inr ⟨(fun n' k' h => by rw [HE.out] at h; cases h), rfl, HY.out, HR.out.trans (Rd.set _)⟩
end Go.Proofs.YtcidgfdiacehmaaDoor

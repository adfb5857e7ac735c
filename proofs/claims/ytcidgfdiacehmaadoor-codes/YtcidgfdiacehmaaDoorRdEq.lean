/- The byte reader's answers as functions of what is left. -/
import Derived.Test.YtcidgfdiacehmaaDoorText
namespace Go.Proofs.YtcidgfdiacehmaaDoor
open Go.RowKit Go.Lib

/-- A number: it, what is left, the state. -/
def numR (s : ByteArray) (most : Int) (st : Nat) : Nat × ByteArray × Nat :=
  match rdNum s.data.toList most (min s.size 9) 0 with
  | some (n, k) => (n, s.extract k s.size, st)
  | none => (0, ⟨#[]⟩, 1)
/-- A text: it, what is left, the state. -/
def textR (s : ByteArray) (most : Int) (st : Nat) : ByteArray × ByteArray × Nat :=
  match rdNum s.data.toList most (min s.size 9) 0 with
  | some (n, k) => if n ≤ s.size - k then ((s.extract k s.size).extract 0 n, (s.extract k s.size).extract n (s.extract k s.size).size, st) else (⟨#[]⟩, ⟨#[]⟩, 1)
  | none => (⟨#[]⟩, ⟨#[]⟩, 1)

theorem rdNum_le (l : List UInt8) (most : Int) (f k n j : Nat) (h : rdNum l most f k = some (n, j)) : (n : Int) ≤ most := by
  induction f generalizing k with
  | zero => cases h
  | succ f ih =>
    rw [rdNum] at h
    split at h
    · exact ih _ h
    · split at h
      · cases h
      · cases h; omega
theorem numR_le (s : ByteArray) (most : Int) (st : Nat) (h0 : 0 ≤ most) : ((numR s most st).1 : Int) ≤ most := by
  unfold numR
  split
  · rename_i h; exact rdNum_le _ _ _ _ _ _ h
  · exact h0
theorem numR_ok (s : ByteArray) (most : Int) (st : Nat) (h : (numR s most st).2.2 ≠ 1) : ((numR s most st).1 : Int) ≤ most := by
  unfold numR at *
  split
  · rename_i h; exact rdNum_le _ _ _ _ _ _ h
  · rename_i h1; rw [h1] at h; exact absurd rfl h
theorem numR_size (s : ByteArray) (most : Int) (st : Nat) : (numR s most st).2.1.size ≤ s.size := by
  unfold numR; split
  · simp
  · exact Nat.zero_le _
theorem numR_st (s : ByteArray) (most : Int) (st : Nat) (h : st ≤ 1) : (numR s most st).2.2 ≤ 1 := by
  unfold numR; split <;> simp [h]
theorem textR_size (s : ByteArray) (most : Int) (st : Nat) : (textR s most st).2.1.size ≤ s.size := by
  unfold textR; split
  · split
    · simp; omega
    · exact Nat.zero_le _
  · exact Nat.zero_le _
theorem textR_len (s : ByteArray) (most : Int) (st : Nat) : (textR s most st).1.size ≤ s.size := by
  unfold textR; split
  · split
    · simp; omega
    · exact Nat.zero_le _
  · exact Nat.zero_le _
theorem textR_st (s : ByteArray) (most : Int) (st : Nat) (h : st ≤ 1) : (textR s most st).2.2 ≤ 1 := by
  unfold textR; split
  · split <;> simp [h]
  · simp

theorem number_is (yb yo st : Nat) (s : ByteArray) (most : Int) (w : World) (H : YR w yb yo s st) (hs : s.size ≤ 140737488355328) :
    Calls Tryd.prog 58 #[.pointer (some ⟨yb, yo, none⟩), .int .i64 most] w fun e w' => e = .returned (.int .i64 ((numR s most st).1 : Nat)) ∧ YR w' yb yo (numR s most st).2.1 (numR s most st).2.2 ∧ Rd w w' yb yo := by
  refine (number_any yb yo st s most w H hs).mono ?_
  rintro e w' (⟨n, k, hr, rfl, hY, hR⟩ | ⟨hr, rfl, hY, hR⟩) <;> simp only [numR, hr]
  · exact ⟨trivial, hY, hR⟩
  · exact ⟨by simp, hY, hR⟩
theorem text_is (yb yo st : Nat) (s : ByteArray) (most : Int) (w : World) (H : YR w yb yo s st) (hs : s.size ≤ 140737488355328) :
    Calls Tryd.prog 69 #[.pointer (some ⟨yb, yo, none⟩), .int .i64 most] w fun e w' => e = .returned (.string (textR s most st).1) ∧ YR w' yb yo (textR s most st).2.1 (textR s most st).2.2 ∧ Rd w w' yb yo := by
  refine (text_any yb yo st s most w H hs).mono ?_
  rintro e w' (⟨n, k, hr, hn, rfl, hY, hR⟩ | ⟨hr, rfl, hY, hR⟩)
  · simp only [textR, hr, if_pos hn]
    exact ⟨trivial, hY, hR⟩
  · have e : textR s most st = (⟨#[]⟩, ⟨#[]⟩, 1) := by
      unfold textR
      split
      · rename_i n k h; rw [if_neg (hr n k h)]
      · rfl
    rw [e]
    exact ⟨rfl, hY, hR⟩
end Go.Proofs.YtcidgfdiacehmaaDoor

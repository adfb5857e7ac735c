/- What the readers make of bytes, as functions. -/
import Derived.Test.YtcidgfdiacehmaaDoorUnp
namespace Go.Proofs.YtcidgfdiacehmaaDoor

abbrev Rest := ByteArray × Nat
def gone : Rest := (⟨#[]⟩, 1)
/-- n things, one behind the other. -/
def seqTo {α : Type} (f : Rest → α × Rest) (s : Rest) : Nat → List α × Rest
  | 0 => ([], s)
  | n + 1 => ((seqTo f s n).1 ++ [(f (seqTo f s n).2).1], (f (seqTo f s n).2).2)
theorem seqTo_length {α : Type} (f : Rest → α × Rest) (s : Rest) (n : Nat) : (seqTo f s n).1.length = n := by
  induction n with
  | zero => rfl
  | succ n ih => simp [seqTo, ih]
theorem seqTo_inv {α : Type} (f : Rest → α × Rest) (P : Rest → Prop) (hf : ∀ s, P s → P (f s).2) (s : Rest) (h : P s) (n : Nat) : P (seqTo f s n).2 := by
  induction n with
  | zero => exact h
  | succ n ih => exact hf _ ih
theorem seqTo_all {α : Type} (f : Rest → α × Rest) (P : α → Prop) (hf : ∀ s, P (f s).1) (s : Rest) (n : Nat) : ∀ x ∈ (seqTo f s n).1, P x := by
  induction n with
  | zero => intro x hx; cases hx
  | succ n ih =>
    intro x hx
    rcases List.mem_append.1 hx with h | h
    · exact ih x h
    · rw [List.mem_singleton.1 h]; exact hf _

def tofR (texts : List ByteArray) (s : Rest) : ByteArray × Rest :=
  (if (numR s.1 ((texts.length : Int) - 1) s.2).2.2 = 1 then ⟨#[]⟩ else texts.getD (numR s.1 ((texts.length : Int) - 1) s.2).1 ⟨#[]⟩, (numR s.1 ((texts.length : Int) - 1) s.2).2)
def labR (texts : List ByteArray) (s : Rest) : Lab × Rest := (((tofR texts s).1, (tofR texts (tofR texts s).2).1), (tofR texts (tofR texts s).2).2)
def labsR (texts : List ByteArray) (s : Rest) : List Lab × Rest := seqTo (labR texts) (numR s.1 4 s.2).2 (numR s.1 4 s.2).1
/-- The samples of a chunk, n of them, one at least. -/
def chunkR (s : ByteArray) (n : Nat) : List (Int × Nat) × US := seqU s (firstU s) (n - 1)
def samplesR (s : Rest) : List (Int × Nat) × Rest :=
  let c := numR s.1 40 s.2
  let t := textR c.2.1 c.2.1.size c.2.2
  if c.1 = 0 then ([], gone) else if (chunkR t.1 c.1).2.st = 1 then ((chunkR t.1 c.1).1, gone) else ((chunkR t.1 c.1).1, t.2)
def serR (texts : List ByteArray) (s : Rest) : Ser × Rest := (((labsR texts s).1, (samplesR (labsR texts s).2).1), (samplesR (labsR texts s).2).2)
def textsR (s : Rest) : List ByteArray × Rest := seqTo (fun s => textR s.1 16 s.2) (numR s.1 64 s.2).2 (numR s.1 64 s.2).1
/-- A payload: its series, and the state. -/
def payR (s : ByteArray) : List Ser × Rest :=
  let t := textsR (s, 0)
  let c := numR t.2.1 8 t.2.2
  seqTo (serR t.1) c.2 c.1

/-- The rest is no longer than m, its state 0 or 1. -/
def Short (m : Nat) (s : Rest) : Prop := s.1.size ≤ m ∧ s.2 ≤ 1
theorem short_num {m : Nat} {s : Rest} (h : Short m s) (most : Int) : Short m (numR s.1 most s.2).2 := ⟨Nat.le_trans (numR_size _ _ _) h.1, numR_st _ _ _ h.2⟩
theorem short_text {m : Nat} {s : Rest} (h : Short m s) (most : Int) : Short m (textR s.1 most s.2).2 := ⟨Nat.le_trans (textR_size _ _ _) h.1, textR_st _ _ _ h.2⟩
theorem short_gone (m : Nat) : Short m gone := ⟨Nat.zero_le _, Nat.le_refl _⟩
theorem short_tof {m : Nat} {s : Rest} (texts : List ByteArray) (h : Short m s) : Short m (tofR texts s).2 := short_num h _
theorem short_lab {m : Nat} {s : Rest} (texts : List ByteArray) (h : Short m s) : Short m (labR texts s).2 := short_tof texts (short_tof texts h)
theorem short_labs {m : Nat} {s : Rest} (texts : List ByteArray) (h : Short m s) : Short m (labsR texts s).2 := seqTo_inv (labR texts) (Short m) (fun _ h => short_lab texts h) _ (short_num h 4) _
theorem short_samples {m : Nat} {s : Rest} (h : Short m s) : Short m (samplesR s).2 := by
  unfold samplesR
  simp only
  split
  · exact short_gone m
  · split
    · exact short_gone m
    · exact short_text (short_num h _) _
theorem short_ser {m : Nat} {s : Rest} (texts : List ByteArray) (h : Short m s) : Short m (serR texts s).2 := short_samples (short_labs texts h)
theorem short_texts {m : Nat} {s : Rest} (h : Short m s) : Short m (textsR s).2 := seqTo_inv _ (Short m) (fun _ h => short_text h 16) _ (short_num h 64) _
theorem num_nat (s : Rest) (most : Nat) : (numR s.1 (most : Int) s.2).1 ≤ most := by have := numR_le s.1 most s.2 (by omega); omega
end Go.Proofs.YtcidgfdiacehmaaDoor

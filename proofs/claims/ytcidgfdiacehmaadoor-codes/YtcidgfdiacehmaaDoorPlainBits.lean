/- Plain: bits in bytes, the highest first. -/
import Derived.Test.YtcidgfdiacehmaaDoorPlain
namespace Go.Proofs.YtcidgfdiacehmaaDoor.Pl

def byteOf (f : Nat → Bool) : Nat :=
  (f 0).toNat * 128 + (f 1).toNat * 64 + (f 2).toNat * 32 + (f 3).toNat * 16 + (f 4).toNat * 8 + (f 5).toNat * 4 + (f 6).toNat * 2 + (f 7).toNat
theorem byteOf_lt (f : Nat → Bool) : byteOf f < 256 := by
  unfold byteOf
  have h : ∀ b : Bool, b.toNat ≤ 1 := fun b => by cases b <;> decide
  have := h (f 0); have := h (f 1); have := h (f 2); have := h (f 3); have := h (f 4); have := h (f 5); have := h (f 6); have := h (f 7)
  omega
theorem byteOf_congr {f g : Nat → Bool} (h : ∀ i, i < 8 → f i = g i) : byteOf f = byteOf g := by
  unfold byteOf
  rw [h 0 (by omega), h 1 (by omega), h 2 (by omega), h 3 (by omega), h 4 (by omega), h 5 (by omega), h 6 (by omega), h 7 (by omega)]
theorem byteOf_set (g : Nat → Bool) (b : Bool) (m : Nat) (hm : m < 8) (hz : ∀ i, m ≤ i → g i = false) :
    byteOf g % 2 ^ (8 - m) = 0 ∧ byteOf (fun i => if i = m then b else g i) = byteOf g + b.toNat * 2 ^ (7 - m) := by
  have h0 := hz 0; have h1 := hz 1; have h2 := hz 2; have h3 := hz 3; have h4 := hz 4; have h5 := hz 5; have h6 := hz 6; have h7 := hz 7
  have e : m = 0 ∨ m = 1 ∨ m = 2 ∨ m = 3 ∨ m = 4 ∨ m = 5 ∨ m = 6 ∨ m = 7 := by omega
  rcases e with rfl | rfl | rfl | rfl | rfl | rfl | rfl | rfl <;> simp at h0 h1 h2 h3 h4 h5 h6 h7 <;> simp [byteOf, *] <;> omega
/-- the byte number j of a list of bits -/
def byteAt (l : List Bool) (j : Nat) : UInt8 := UInt8.ofNat (byteOf fun i => l.getD (8 * j + i) false)
def pack (l : List Bool) : List UInt8 := (List.range ((l.length + 7) / 8)).map (byteAt l)
theorem pack_length (l : List Bool) : (pack l).length = (l.length + 7) / 8 := by simp [pack]
theorem pack_nil : pack [] = [] := rfl
theorem byteAt_toNat (l : List Bool) (j : Nat) : (byteAt l j).toNat = byteOf fun i => l.getD (8 * j + i) false := by
  have := byteOf_lt fun i => l.getD (8 * j + i) false
  simp only [byteAt, UInt8.toNat_ofNat']
  exact Nat.mod_eq_of_lt this

/-- What is there ahead of a bit: a byte more, where the last is full. -/
def roomy (l : List Bool) : List UInt8 := if l.length % 8 = 0 then pack l ++ [0] else pack l
theorem roomy_length (l : List Bool) : (roomy l).length = l.length / 8 + 1 := by
  unfold roomy; split <;> simp [pack_length] <;> omega
theorem roomy_get (l : List Bool) (j : Nat) (h : j < l.length / 8 + 1) : (roomy l)[j]? = some (byteAt l j) := by
  unfold roomy
  split
  · by_cases hj : j < (l.length + 7) / 8
    · rw [List.getElem?_append_left (by rw [pack_length]; exact hj)]
      simp [pack, hj]
    · rw [List.getElem?_append_right (by rw [pack_length]; omega), pack_length, show j - (l.length + 7) / 8 = 0 by omega]
      have : byteAt l j = 0 := by
        apply UInt8.toNat_inj.1
        rw [byteAt_toNat]
        have hz : ∀ i, l.getD (8 * j + i) false = false := fun i => by
          rw [List.getD_eq_getElem?_getD, List.getElem?_eq_none (by omega)]; rfl
        rw [byteOf_congr (g := fun _ => false) fun i _ => hz i]; rfl
      simp [this]
  · have hj : j < (l.length + 7) / 8 := by omega
    simp [pack, hj]

theorem getD_snoc (l : List Bool) (b : Bool) (k : Nat) : (l ++ [b]).getD k false = if k = l.length then b else l.getD k false := by
  simp only [List.getD_eq_getElem?_getD]
  by_cases h : k < l.length
  · rw [List.getElem?_append_left h, if_neg (by omega)]
  · by_cases h2 : k = l.length
    · subst h2; simp
    · rw [if_neg h2, List.getElem?_eq_none (by simp; omega), List.getElem?_eq_none (by omega)]

/-- The byte that the next bit goes into: its lower bits are 0, and the bit is added. -/
theorem byteAt_snoc (l : List Bool) (b : Bool) :
    (byteAt l (l.length / 8)).toNat % 2 ^ (8 - l.length % 8) = 0 ∧ (byteAt (l ++ [b]) (l.length / 8)).toNat = (byteAt l (l.length / 8)).toNat + b.toNat * 2 ^ (7 - l.length % 8) := by
  rw [byteAt_toNat, byteAt_toNat]
  have hz : ∀ i, l.length % 8 ≤ i → l.getD (8 * (l.length / 8) + i) false = false := fun i hi => by
    rw [List.getD_eq_getElem?_getD, List.getElem?_eq_none (by omega)]; rfl
  have hs : ∀ i, (l ++ [b]).getD (8 * (l.length / 8) + i) false = if i = l.length % 8 then b else l.getD (8 * (l.length / 8) + i) false := fun i => by
    rw [getD_snoc]
    by_cases h : i = l.length % 8
    · rw [if_pos h, if_pos (by omega)]
    · rw [if_neg h, if_neg (by omega)]
  rw [byteOf_congr fun i _ => hs i]
  exact byteOf_set _ b _ (Nat.mod_lt _ (by decide)) hz

theorem pack_snoc (l : List Bool) (b : Bool) (x : UInt8) (hx : (roomy l)[l.length / 8]? = some x) :
    pack (l ++ [b]) = (roomy l).set (l.length / 8) (UInt8.ofNat (x.toNat + b.toNat * 2 ^ (7 - l.length % 8))) ∧ x.toNat % 2 ^ (8 - l.length % 8) = 0 ∧ x.toNat + b.toNat * 2 ^ (7 - l.length % 8) < 256 := by
  rw [roomy_get l _ (by omega)] at hx
  cases hx
  obtain ⟨h1, h2⟩ := byteAt_snoc l b
  have hlt := (byteAt (l ++ [b]) (l.length / 8)).toNat_lt
  rw [h2] at hlt
  refine ⟨?_, h1, by omega⟩
  apply List.ext_getElem?
  intro j
  rw [List.getElem?_set]
  by_cases hj : j < l.length / 8 + 1
  · have hp : j < ((l ++ [b]).length + 7) / 8 := by simp; omega
    have e1 : (pack (l ++ [b]))[j]? = some (byteAt (l ++ [b]) j) := by simp only [pack]; rw [List.getElem?_map, List.getElem?_range hp]; rfl
    rw [e1]
    by_cases he : l.length / 8 = j
    · subst he
      rw [if_pos rfl, if_pos (by rw [roomy_length]; omega)]
      congr 1
      apply UInt8.toNat_inj.1
      rw [h2, UInt8.toNat_ofNat']
      exact (Nat.mod_eq_of_lt hlt).symm
    · rw [if_neg he, roomy_get l j hj]
      congr 1
      apply UInt8.toNat_inj.1
      rw [byteAt_toNat, byteAt_toNat]
      exact byteOf_congr fun i hi => by rw [getD_snoc, if_neg (by omega)]
  · rw [List.getElem?_eq_none (by rw [pack_length]; simp; omega), if_neg (by omega), List.getElem?_eq_none (by rw [roomy_length]; omega)]

/-- The lowest bits of n, the highest first. -/
def bitsOf (n : Nat) : Nat → List Bool
  | 0 => []
  | k + 1 => (n / 2 ^ k % 2 == 1) :: bitsOf n k
theorem bitsOf_length (n k : Nat) : (bitsOf n k).length = k := by induction k <;> simp [bitsOf, *]
end Go.Proofs.YtcidgfdiacehmaaDoor.Pl

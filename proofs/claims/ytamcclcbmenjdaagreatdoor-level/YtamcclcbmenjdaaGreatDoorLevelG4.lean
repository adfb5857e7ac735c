/- 'choirkeep.Level', for any list of steps (100 of them are done): when all are up, nothing is under way, and each has told each other one, all have the same, and compacted logs are the same bytes. The first form's statement and its card: no condition beside the row's own. -/
import Derived.Test.YtamcclcbmenjdaaGreatDoorLevelG1
import Derived.Test.YtamcclcbmenjdaaGreatDoorLevelG2
import Derived.Test.YtamcclcbmenjdaaGreatDoorLevelG3
/- choirkeep's batch. -/
namespace Go.Proofs.YtamcclcbmenjdaaGreatDoor
open Go.RowKit Go.Lib

/-- A slice value whose raw samples lie below block B. -/
def RawsAt (w : World) (B : Nat) (v : Value) (l : List (Int × Int × Nat)) : Prop :=
  ∃ a cap, v = .slice a l.length cap ∧ (∀ x ∈ l, -9223372036854775808 ≤ x.1 ∧ x.1 ≤ 9223372036854775807 ∧ -9223372036854775808 ≤ x.2.1 ∧ x.2.1 ≤ 9223372036854775807 ∧ x.2.2 ≤ 18446744073709551615) ∧
    (l = [] ∨ ∃ b o, a = some ⟨b, o, none⟩ ∧ b < B ∧ ∀ i x, l[i]? = some x → w.cell? ⟨b, o + i * 3, none⟩ = some (.int .i64 x.1) ∧ w.cell? ⟨b, o + i * 3 + 1, none⟩ = some (.int .i64 x.2.1) ∧ w.cell? ⟨b, o + i * 3 + 2, none⟩ = some (.int .u64 x.2.2))
/-- v lives in no block of o's. -/
def Off (v o : Value) : Prop := ∀ k, v.ownBlock = some k → o.ownBlock ≠ some k
/-- The four lists that batch fills, in block a0. -/
structure AllAt (w : World) (a0 : Nat) (vf : Nat → Value) (lf : Nat → List (Int × Nat)) : Prop where
  cell : ∀ j, j < 4 → w.cell? ⟨a0, j, none⟩ = some (vf j)
  fr : ∀ j, w.frozen? ⟨a0, j, none⟩ = false
  own : ∀ j, j < 4 → w.ownsRow (a0 + 1) 34 2 (vf j) (lf j).length (samCells (lf j))
  off : ∀ i j, i < 4 → j < 4 → i ≠ j → Off (vf i) (vf j)
theorem AllAt.lt {w : World} {a0 : Nat} {vf : Nat → Value} {lf : Nat → List (Int × Nat)} (h : AllAt w a0 vf lf) : a0 < w.heap.size := World.block_lt_of_cell? w _ (h.cell 0 (by omega))
theorem AllAt.kept {w w' : World} {a0 : Nat} {vf : Nat → Value} {lf : Nat → List (Int × Nat)} (h : AllAt w a0 vf lf) (hk : ∀ k, k < w.heap.size → w'.heap[k]? = w.heap[k]?) : AllAt w' a0 vf lf :=
  ⟨fun j hj => (World.cell?_of_block (a := ⟨a0, j, none⟩) (hk a0 h.lt)).trans (h.cell j hj), fun j => (World.frozen?_of_block (a := ⟨a0, j, none⟩) (hk a0 h.lt)).trans (h.fr j),
    fun j hj => own_kept (h.own j hj) fun k e => hk k (World.ownsRow.lt (h.own j hj) k e).2, h.off⟩
theorem AllAt.alloc {w : World} {a0 : Nat} {vf : Nat → Value} {lf : Nat → List (Int × Nat)} (h : AllAt w a0 vf lf) (ob : Obj) : AllAt (w.alloc ob) a0 vf lf := h.kept fun _ hk => heap_alloc_old w ob hk
theorem AllAt.drew {w : World} {a0 : Nat} {vf : Nat → Value} {lf : Nat → List (Int × Nat)} (h : AllAt w a0 vf lf) : AllAt w.drew a0 vf lf := h.kept fun _ _ => rfl
theorem AllAt.init (w : World) : AllAt (w.alloc (.cells #[.slice none 0 0, .slice none 0 0, .slice none 0 0, .slice none 0 0] 89)) w.heap.size (fun _ => .slice none 0 0) (fun _ => []) := by
  refine ⟨fun j hj => ?_, fun j => World.frozen?_alloc_new _ _ _ j, fun _ _ => World.ownsRow_nil _ _ _ _, fun _ _ _ _ _ k e => by cases e⟩
  rw [World.cell?_alloc_new]
  have e : j = 0 ∨ j = 1 ∨ j = 2 ∨ j = 3 := by omega
  rcases e with rfl | rfl | rfl | rfl <;> rfl
/-- One of them as it grows. -/
structure GoodL (l : List (Int × Nat)) : Prop where
  rises : RisesTo l l.length
  len : l.length ≤ 10
  range : ∀ x ∈ l, -9223372036854775808 ≤ x.1 ∧ x.1 ≤ 9223372036854775807 ∧ x.2 ≤ 18446744073709551615
theorem GoodL.nil : GoodL [] := ⟨fun i x y h => by simp at h, by simp, fun x h => by cases h⟩
theorem GoodL.snoc {l : List (Int × Nat)} {t : Int} {b : Nat} (h : GoodL l) (hl : l.length < 10) (hr : -9223372036854775808 ≤ t ∧ t ≤ 9223372036854775807 ∧ b ≤ 18446744073709551615) (hlast : ∀ x, l[l.length - 1]? = some x → x.1 < t) : GoodL (l ++ [(t, b)]) := by
  refine ⟨fun i x y hi hx hy => ?_, by simp; omega, fun x hx => ?_⟩
  · simp only [List.length_append, List.length_cons, List.length_nil] at hi
    rw [List.getElem?_append_left (by omega)] at hx
    by_cases he : i + 1 < l.length
    · rw [List.getElem?_append_left he] at hy
      exact h.rises i x y he hx hy
    · have e : i + 1 = l.length := by omega
      rw [e, List.getElem?_append_right (Nat.le_refl _), Nat.sub_self] at hy
      cases hy
      exact hlast x (by rw [show l.length - 1 = i by omega]; exact hx)
  · rcases List.mem_append.1 hx with hx | hx
    · exact h.range x hx
    · rw [List.mem_singleton.1 hx]; exact hr
theorem AllAt.setOther {w : World} {a0 sb o : Nat} {vf : Nat → Value} {lf : Nat → List (Int × Nat)} (h : AllAt w a0 vf lf) (hs : a0 ≠ sb) (hq : ∀ j, j < 4 → ∀ q, (vf j).ownBlock = some q → q ≠ sb) (x : Value) : AllAt (w.setCell ⟨sb, o, none⟩ x) a0 vf lf := by
  have e : ∀ k, k ≠ sb → (w.setCell ⟨sb, o, none⟩ x).heap[k]? = w.heap[k]? := fun k hk => heap_setCell_other _ _ _ _ hk
  exact ⟨fun j hj => (World.cell?_of_block (a := ⟨a0, j, none⟩) (e a0 hs)).trans (h.cell j hj), fun j => (World.frozen?_of_block (a := ⟨a0, j, none⟩) (e a0 hs)).trans (h.fr j),
    fun j hj => own_kept (h.own j hj) fun k ek => e k (hq j hj k ek), h.off⟩
theorem own_some {base e size n : Nat} {w : World} {v : Value} {xs : List Value} (h : w.ownsRow base e size v n xs) (hn : 0 < n) : ∃ g cap, v = .slice (some ⟨g, 0, none⟩) n cap := by
  rcases h.2 with ⟨_, h0⟩ | ⟨g, cap, _, hv, _⟩
  · omega
  · exact ⟨g, cap, hv⟩
theorem off_heir {w : World} {v o o' : Value} (h : Off v o) (hh : Heir w o o') (hv : ∀ k, v.ownBlock = some k → k < w.heap.size) : Off v o' := by
  intro k e e'
  rcases hh with hh | ⟨b, hb, hs⟩
  · exact h k e (hh ▸ e')
  · rw [hb] at e'; cases e'; have := hv k e; omega
theorem off_heir2 {w : World} {v o o' : Value} (h : Off o v) (hh : Heir w o o') (hv : ∀ k, v.ownBlock = some k → k < w.heap.size) : Off o' v := by
  intro k e e'
  rcases hh with hh | ⟨b, hb, hs⟩
  · exact h k (hh ▸ e) e'
  · rw [hb] at e; cases e; have := hv k e'; omega
/-- One of the four has been appended to, and stored. -/
theorem AllAt.step {w w1 : World} {a0 k : Nat} {vf : Nat → Value} {lf : Nat → List (Int × Nat)} {v' : Value} {x : Int × Nat} (h : AllAt w a0 vf lf) (hk : k < 4) (ho : w1.ownsRow (a0 + 1) 34 2 v' ((lf k).length + 1) (samCells (lf k) ++ [.int .i64 x.1, .int .u64 x.2]))
    (hg : w.grownBy w1 (vf k).ownBlock) (hh : Heir w (vf k) v') :
    AllAt (w1.setCell ⟨a0, k, none⟩ v') a0 (fun j => if j = k then v' else vf j) (fun j => if j = k then lf k ++ [x] else lf j) := by
  have hlt := h.lt
  have hne : some a0 ≠ (vf k).ownBlock := fun e => by have := (World.ownsRow.lt (h.own k hk) a0 e.symm).1; omega
  have hb := hg.block a0 hlt hne
  have ec : ∀ j, w1.cell? ⟨a0, j, none⟩ = w.cell? ⟨a0, j, none⟩ := fun j => World.cell?_of_block (a := ⟨a0, j, none⟩) hb
  have ef : ∀ j, w1.frozen? ⟨a0, j, none⟩ = w.frozen? ⟨a0, j, none⟩ := fun j => World.frozen?_of_block (a := ⟨a0, j, none⟩) hb
  have hv : ∀ j, j < 4 → ∀ b, (vf j).ownBlock = some b → b < w.heap.size := fun j hj b e => (World.ownsRow.lt (h.own j hj) b e).2
  refine ⟨fun j hj => ?_, fun j => ?_, fun j hj => ?_, fun i j hi hj hij => ?_⟩
  · by_cases e : j = k
    · subst e; simp only [if_true]; exact World.cell?_setCell_same _ _ _ ((ec j).trans (h.cell j hj))
    · simp only [if_neg e]
      rw [World.cell?_setCell_other _ _ _ _ (fun x => e (congrArg Addr.off x).symm)]
      exact (ec j).trans (h.cell j hj)
  · rw [World.frozen?_setCell]; exact (ef j).trans (h.fr j)
  · by_cases e : j = k
    · subst e
      simp only [if_true]
      have h1 := ownsRow_setCell_below (a := ⟨a0, j, none⟩) ho (Nat.lt_succ_self a0) v'
      rw [samCells_snoc, List.length_append]
      exact h1
    · simp only [if_neg e]
      refine ownsRow_setCell_below (own_kept (h.own j hj) fun b eb => hg.block b (hv j hj b eb) fun ek => ?_) (Nat.lt_succ_self a0) v'
      exact h.off j k hj hk e b eb ek.symm
  · by_cases ei : i = k
    · subst ei
      have ej : ¬ j = i := fun e => hij e.symm
      simp only [if_true, if_neg ej]
      exact off_heir2 (h.off i j hi hj hij) hh (hv j hj)
    · by_cases ej : j = k
      · subst ej
        simp only [if_true, if_neg ei]
        exact off_heir (h.off i j hi hj hij) hh (hv i hi)
      · simp only [if_neg ei, if_neg ej]
        exact h.off i j hi hj hij
theorem own_drewN {base e size n : Nat} {w : World} {v : Value} {xs : List Value} (h : w.ownsRow base e size v n xs) (q : Nat) : (w.drewN q).ownsRow base e size v n xs := h
theorem labs_kept {w w' : World} {B B' : Nat} {v : Value} {l : List Lab} (h : LabelsAt w B v l) (hk : ∀ k, v.ownBlock = some k → w'.heap[k]? = w.heap[k]?) (hB : B ≤ B') : LabelsAt w' B' v l := by
  obtain ⟨a, cap, rfl, hc, h2⟩ := h
  refine ⟨a, cap, rfl, hc, ?_⟩
  rcases h2 with h2 | ⟨b, o, rfl, hb, hcell⟩
  · exact .inl h2
  · have e := hk b rfl
    exact .inr ⟨b, o, rfl, by omega, fun i x hx => ⟨(World.cell?_of_block (a := ⟨b, o + i * 2, none⟩) e).trans (hcell i x hx).1, (World.cell?_of_block (a := ⟨b, o + i * 2 + 1, none⟩) e).trans (hcell i x hx).2⟩⟩
theorem sams_kept {w w' : World} {B B' : Nat} {v : Value} {l : List (Int × Nat)} (h : SamplesAt w B v l) (hk : ∀ k, v.ownBlock = some k → w'.heap[k]? = w.heap[k]?) (hB : B ≤ B') : SamplesAt w' B' v l := by
  obtain ⟨a, cap, rfl, hc, hr, h2⟩ := h
  refine ⟨a, cap, rfl, hc, hr, ?_⟩
  rcases h2 with h2 | ⟨b, o, rfl, hb, hcell⟩
  · exact .inl h2
  · have e := hk b rfl
    exact .inr ⟨b, o, rfl, by omega, fun i x hx => ⟨(World.cell?_of_block (a := ⟨b, o + i * 2, none⟩) e).trans (hcell i x hx).1, (World.cell?_of_block (a := ⟨b, o + i * 2 + 1, none⟩) e).trans (hcell i x hx).2⟩⟩
/-- A series' two lists, in blocks that are not o's. -/
structure Ent (w : World) (o : Value) (p : Value × Value) (x : Ser) : Prop where
  lab : LabelsAt w w.heap.size p.1 x.1
  sam : SamplesAt w w.heap.size p.2 x.2
  off1 : Off p.1 o
  off2 : Off p.2 o
  lt1 : ∀ k, p.1.ownBlock = some k → k < w.heap.size
  lt2 : ∀ k, p.2.ownBlock = some k → k < w.heap.size
theorem Ent.step {w w1 w' : World} {o o' : Value} {p : Value × Value} {x : Ser} (h : Ent w o p x) (hb : ∀ k, k < w.heap.size → some k ≠ o.ownBlock → w'.heap[k]? = w.heap[k]?) (hs : w.heap.size ≤ w'.heap.size) (hh : Heir w1 o o') (hs1 : w.heap.size ≤ w1.heap.size) : Ent w' o' p x :=
  ⟨labs_kept h.lab (fun k e => hb k (h.lt1 k e) (fun e' => h.off1 k e e'.symm)) hs, sams_kept h.sam (fun k e => hb k (h.lt2 k e) (fun e' => h.off2 k e e'.symm)) hs,
    off_heir h.off1 hh (fun k e => Nat.lt_of_lt_of_le (h.lt1 k e) hs1), off_heir h.off2 hh (fun k e => Nat.lt_of_lt_of_le (h.lt2 k e) hs1),
    fun k e => Nat.lt_of_lt_of_le (h.lt1 k e) hs, fun k e => Nat.lt_of_lt_of_le (h.lt2 k e) hs⟩
theorem AllAt.other {w w' : World} {a0 : Nat} {vf : Nat → Value} {lf : Nat → List (Int × Nat)} {o : Value} (h : AllAt w a0 vf lf) (hb : ∀ k, k < w.heap.size → some k ≠ o.ownBlock → w'.heap[k]? = w.heap[k]?) (ha : some a0 ≠ o.ownBlock) (ho : ∀ j, j < 4 → Off (vf j) o) : AllAt w' a0 vf lf :=
  ⟨fun j hj => (World.cell?_of_block (a := ⟨a0, j, none⟩) (hb a0 h.lt ha)).trans (h.cell j hj), fun j => (World.frozen?_of_block (a := ⟨a0, j, none⟩) (hb a0 h.lt ha)).trans (h.fr j),
    fun j hj => own_kept (h.own j hj) fun k e => hb k (World.ownsRow.lt (h.own j hj) k e).2 (fun e' => ho j hj k e e'.symm), h.off⟩
/-- The series that batch makes. -/
def kbs (lf : Nat → List (Int × Nat)) : Nat → List Ser
  | 0 => []
  | n + 1 => if 0 < (lf n).length then kbs lf n ++ [(labsOf n, lf n)] else kbs lf n
theorem kbs_len (lf : Nat → List (Int × Nat)) (n : Nat) : (kbs lf n).length ≤ n := by
  induction n with
  | zero => simp [kbs]
  | succ n ih =>
    rw [kbs]
    split
    · rw [List.length_append]; simp; omega
    · omega
theorem kcmp {j n : Nat} (h1 : j < n) (h2 : n < 4) : cmpLabs (labsOf j) (labsOf n) < 0 := by
  have e : (j = 0 ∧ n = 1) ∨ (j = 0 ∧ n = 2) ∨ (j = 0 ∧ n = 3) ∨ (j = 1 ∧ n = 2) ∨ (j = 1 ∧ n = 3) ∨ (j = 2 ∧ n = 3) := by omega
  rcases e with ⟨rfl, rfl⟩ | ⟨rfl, rfl⟩ | ⟨rfl, rfl⟩ | ⟨rfl, rfl⟩ | ⟨rfl, rfl⟩ | ⟨rfl, rfl⟩ <;> decide
theorem klen {j : Nat} : (labsOf j).length ≤ 4 := by
  unfold labsOf; split <;> simp
theorem kokey (a b : List UInt8) (h1 : a.isEmpty = false) (h2 : a.length ≤ 16) (h3 : b.length ≤ 16) : KeyOk (tx a, tx b) := by
  refine ⟨?_, ?_, ?_⟩
  · rw [ByteArray.toList_eq]; simpa [tx] using h1
  · show a.toArray.size ≤ 16; simpa using h2
  · show b.toArray.size ≤ 16; simpa using h3
theorem klabsOk {j : Nat} (h : j < 4) : LabelsOk (labsOf j) := by
  have k1 : KeyOk (tx [104, 111, 115, 116], tx [97]) := kokey _ _ rfl (by decide) (by decide)
  have k2 : KeyOk (tx [111, 102], tx [108, 111, 97, 100]) := kokey _ _ rfl (by decide) (by decide)
  have e : j = 0 ∨ j = 1 ∨ j = 2 ∨ j = 3 := by omega
  rcases e with rfl | rfl | rfl | rfl
  · exact ⟨fun i x hi => by simp [labsOf] at hi, fun i x y hi => by simp [labsOf] at hi⟩
  · refine ⟨fun i x hi hx => ?_, fun i x y hi => by simp [labsOf] at hi⟩
    have : i = 0 := by simp [labsOf] at hi; exact hi
    subst this; cases hx; exact k1
  · refine ⟨fun i x hi hx => ?_, fun i x y hi hx hy => ?_⟩
    · have : i = 0 ∨ i = 1 := by simp [labsOf] at hi; omega
      rcases this with rfl | rfl <;> cases hx
      · exact k1
      · exact k2
    · have : i = 0 := by simp [labsOf] at hi; omega
      subst this; cases hx; cases hy
      rw [ByteArray.toList_eq, ByteArray.toList_eq]; rfl
  · refine ⟨fun i x hi hx => ?_, fun i x y hi => by simp [labsOf] at hi⟩
    have : i = 0 := by simp [labsOf] at hi; exact hi
    subst this; cases hx; exact k2
theorem kbs_shape (lf : Nat → List (Int × Nat)) : ∀ n, n ≤ 4 → (∀ (i : Nat) (x : Ser), (kbs lf n)[i]? = some x → ∃ j, j < n ∧ x = (labsOf j, lf j) ∧ 0 < (lf j).length) ∧ (∀ (i : Nat) (x y : Ser), (kbs lf n)[i]? = some x → (kbs lf n)[i + 1]? = some y → cmpLabs x.1 y.1 < 0) := by
  intro n
  induction n with
  | zero => intro _; exact ⟨fun i x h => by simp [kbs] at h, fun i x y h => by simp [kbs] at h⟩
  | succ n ih =>
    intro hn
    obtain ⟨h1, h2⟩ := ih (by omega)
    rw [kbs]
    split
    · rename_i h0
      refine ⟨fun i x hx => ?_, fun i x y hx hy => ?_⟩
      · by_cases hi : i < (kbs lf n).length
        · rw [List.getElem?_append_left hi] at hx
          obtain ⟨j, hj, r⟩ := h1 i x hx
          exact ⟨j, by omega, r⟩
        · have hlt := (List.getElem?_eq_some_iff.1 hx).1
          rw [List.length_append] at hlt
          simp at hlt
          rw [List.getElem?_append_right (by omega), show i - (kbs lf n).length = 0 by omega] at hx
          cases hx
          exact ⟨n, by omega, rfl, h0⟩
      · have hlt := (List.getElem?_eq_some_iff.1 hy).1
        rw [List.length_append] at hlt
        simp at hlt
        rw [List.getElem?_append_left (by omega)] at hx
        by_cases hi : i + 1 < (kbs lf n).length
        · rw [List.getElem?_append_left hi] at hy
          exact h2 i x y hx hy
        · rw [List.getElem?_append_right (by omega), show i + 1 - (kbs lf n).length = 0 by omega] at hy
          cases hy
          obtain ⟨j, hj, rfl, _⟩ := h1 i x hx
          exact kcmp hj (by omega)
    · exact ⟨fun i x hx => by obtain ⟨j, hj, r⟩ := h1 i x hx; exact ⟨j, by omega, r⟩, h2⟩
theorem kbs_ok (lf : Nat → List (Int × Nat)) (hG : ∀ j, j < 4 → GoodL (lf j)) : BatchOk (kbs lf 4) ∧ LimitsOk (kbs lf 4) ∧ InRange (kbs lf 4) := by
  obtain ⟨h1, h2⟩ := kbs_shape lf 4 (by omega)
  have hl := kbs_len lf 4
  refine ⟨⟨fun i x _ hx => ?_, fun i x y _ hx hy => h2 i x y hx hy⟩, ⟨fun i x _ hx => ?_, by omega⟩, fun s hs y hy => ?_⟩
  · obtain ⟨j, hj, rfl, h0⟩ := h1 i x hx
    exact ⟨klabsOk hj, fun e => by have e' : lf j = [] := e; rw [e'] at h0; simp at h0, (hG j hj).rises⟩
  · obtain ⟨j, hj, rfl, _⟩ := h1 i x hx
    exact ⟨klen, by have := (hG j hj).len; show (lf j).length ≤ 40; omega⟩
  · obtain ⟨i, hi, e⟩ := List.mem_iff_getElem.1 hs
    obtain ⟨j, hj, rfl, _⟩ := h1 i s (by rw [List.getElem?_eq_getElem hi, e])
    exact (hG j hj).range y hy
/-- Series of the four kinds, of at most n samples each. -/
def KB (bs : List Ser) (n : Nat) : Prop := ∀ s ∈ bs, (∃ j, j < 4 ∧ s.1 = labsOf j) ∧ s.2.length ≤ n
theorem kbs_kb (lf : Nat → List (Int × Nat)) (hG : ∀ j, j < 4 → GoodL (lf j)) : KB (kbs lf 4) 10 := fun s hs => by
  obtain ⟨i, hi, e⟩ := List.mem_iff_getElem.1 hs
  obtain ⟨j, hj, rfl, _⟩ := (kbs_shape lf 4 (by omega)).1 i s (by rw [List.getElem?_eq_getElem hi, e])
  exact ⟨⟨j, hj, rfl⟩, by have := (hG j hj).len; show (lf j).length ≤ 10; omega⟩
/-- The row of series so far. -/
def EntsAt (w : World) (a0 : Nat) (o : Value) (bs : List Ser) : Prop :=
  ∃ vals : List (Value × Value), vals.length = bs.length ∧ w.ownsRow (a0 + 1) 38 2 o bs.length (serCells vals) ∧ ∀ (i : Nat) (p : Value × Value) (x : Ser), vals[i]? = some p → bs[i]? = some x → Ent w o p x
theorem EntsAt.snoc {w w1 w' : World} {a0 : Nat} {o o' : Value} {bs : List Ser} {p : Value × Value} {x : Ser} {vals : List (Value × Value)} (hv : vals.length = bs.length) (he : ∀ (i : Nat) (p : Value × Value) (x : Ser), vals[i]? = some p → bs[i]? = some x → Ent w o p x)
    (ho : w'.ownsRow (a0 + 1) 38 2 o' (bs.length + 1) (serCells vals ++ [p.1, p.2])) (hb : ∀ k, k < w.heap.size → some k ≠ o.ownBlock → w'.heap[k]? = w.heap[k]?) (hs : w.heap.size ≤ w'.heap.size) (hh : Heir w1 o o') (hs1 : w.heap.size ≤ w1.heap.size) (hp : Ent w' o' p x) : EntsAt w' a0 o' (bs ++ [x]) := by
  refine ⟨vals ++ [p], by simp [hv], ?_, fun i q y hq hy => ?_⟩
  · rw [serCells_snoc, List.length_append]; exact ho
  · by_cases hi : i < vals.length
    · rw [List.getElem?_append_left hi] at hq
      rw [List.getElem?_append_left (by rw [← hv]; exact hi)] at hy
      exact (he i q y hq hy).step hb hs hh hs1
    · have hi2 : i < vals.length + 1 := by
        have := (List.getElem?_eq_some_iff.1 hq).1; simpa using this
      have e : i = vals.length := by omega
      subst e
      rw [List.getElem?_append_right (Nat.le_refl _), Nat.sub_self] at hq
      rw [hv, List.getElem?_append_right (Nat.le_refl _), Nat.sub_self] at hy
      cases hq
      cases hy
      exact hp
theorem EntsAt.batchAt {w : World} {a0 : Nat} {o : Value} {bs : List Ser} (h : EntsAt w a0 o bs) : BatchAt w w.heap.size o bs := by
  obtain ⟨vals, hv, ho, he⟩ := h
  have hlt := fun k e => (World.ownsRow.lt ho k e).2
  rcases ho.2 with ⟨rfl, h0⟩ | ⟨g, cap, cur, rfl, hg, hh, hc, _⟩
  · exact ⟨none, 0, by rw [h0], by omega, .inl (List.eq_nil_of_length_eq_zero h0)⟩
  · refine ⟨_, cap, rfl, hc, .inr ⟨g, 0, rfl, hlt g rfl, fun i x hx => ?_⟩⟩
    obtain ⟨p, hp⟩ : ∃ p, vals[i]? = some p := ⟨_, List.getElem?_eq_getElem (by rw [hv]; exact (List.getElem?_eq_some_iff.1 hx).1)⟩
    have := pair_get (fun x : Value × Value => x.1) (fun x => x.2) vals i p hp
    have hs := he i p x hp hx
    rw [Nat.zero_add]
    exact ⟨p.1, p.2, own_cell ho this.1, own_cell ho this.2, hs.lab, hs.sam⟩
section
variable {P : Program} (w : World)
theorem wp_append_heir {o : Oper} {a : Act} {K : Act → World → Prop} {Q : Exit → Act → World → Prop} (s x : Operand) (t : TypeId)
    (ho : o.op = .call { callee := .builtin .append, args := #[s, x], argTypes := #[t, t] })
    (base : Nat) (e : TypeId) (i : TypeInfo) (z : Value) (size bytes : Nat) (ht : P.underlying t = some (.slice e)) (hi : P.info? e = some i) (hz : i.zero = some z)
    (hsize : i.size = size) (hby : i.bytes = bytes) (hzs : z.cells.size = size) (hsz : 0 < size)
    (v : Value) (n : Nat) (xs : List Value) (hs : a.eval s = v) (hown : w.ownsRow base e size v n xs)
    (ad : Addr) (m c : Nat) (news : List Value) (hx : a.eval x = .slice (some ad) m c) (hl : news.length = m * size) (hnews : ∀ j u, news[j]? = some u → w.cell? (ad.add j) = some u) (h1 : ∀ u ∈ news, u.oneCell' = true)
    (h63 : n + m ≤ maxLen) (hbytes : (n + m) * bytes ≤ 140737488355328) (hbase : base ≤ w.heap.size)
    (h : ∀ v' w', w'.ownsRow base e size v' (n + m) (xs ++ news) → w.grownBy w' v.ownBlock → Heir w v v' → K (a.put o.dst v') w') : o.wp P a w K Q := by
  obtain ⟨v', w', hr, h2, h3, h4⟩ := run_append_heir (P := P) w base t o.type e i z size bytes ht hi hz hsize hby hzs hsz v n xs hown ad m c news hl hnews h1 h63 hbytes hbase
  unfold Oper.wp execOp
  simp only [ho, resolve, invoke, builtin, Sem.run_bind, Sem.run_pure, Result.andThen_ok, List.map_toArray, List.map_cons, List.map_nil, hs, hx, hr]
  exact h v' w' h2 h3 h4
end

set_option linter.unusedSimpArgs false in
set_option maxRecDepth 100000 in
set_option maxHeartbeats 2000000 in
theorem kbatch_more (B : Nat) (v : Value) (raws : List (Int × Int × Nat)) (w : World) (hR : RawsAt w B v raws) (hB : B ≤ w.heap.size) (hl : raws.length ≤ 100000000000000) :
    Calls Tryz.prog 13 #[v] w fun e w' => ∃ v' bs, e = .returned v' ∧ BatchAt w' w'.heap.size v' bs ∧ BatchOk bs ∧ LimitsOk bs ∧ InRange bs ∧ KB bs 10 ∧ Below w.heap.size w w' := by
  obtain ⟨i0, hi, hz0, hz1, hz2⟩ := info_parts Tryz.infoSam
  obtain ⟨i1, hi1, hy0, hy1, hy2⟩ := info_parts Tryz.infoSer
  obtain ⟨ra, rc, rfl, hrng, hraw⟩ := hR
  have HRg := hide hrng
  have hcR : ∀ m x, raws[m]? = some x → ∃ b o, ra = some ⟨b, o, none⟩ ∧ b < B ∧ w.cell? ⟨b, o + m * 3, none⟩ = some (.int .i64 x.1) ∧ w.cell? ⟨b, o + m * 3 + 1, none⟩ = some (.int .i64 x.2.1) ∧ w.cell? ⟨b, o + m * 3 + 2, none⟩ = some (.int .u64 x.2.2) := by
    intro m x hx
    rcases hraw with h | ⟨b, o, ha, hb, hc⟩
    · rw [h] at hx; cases hx
    · exact ⟨b, o, ha, hb, (hc m x hx).1, (hc m x hx).2.1, (hc m x hx).2.2⟩
  have HC := hide hcR
  have HA0 := hide (AllAt.init w)
  have HB0 : Hid (Below w.heap.size w (w.alloc (.cells #[.slice none 0 0, .slice none 0 0, .slice none 0 0, .slice none 0 0] 89))) := (Below.refl _ _).alloc (Nat.le_refl _) _
  clear hrng hraw hcR
  go_enter Tryz.func13, Tryz.ntmps13
  go_wp2
  go_loopw [4, 5, 6, 7, 8, 9] (fun i _ _ _ _ _ wr => ∃ (m : Nat) (vf : Nat → Value) (lf : Nat → List (Int × Nat)), m ≤ raws.length ∧ i = .int .i64 m ∧ AllAt wr w.heap.size vf lf ∧ (∀ j, j < 4 → GoodL (lf j)) ∧ Below w.heap.size w wr) (fun i _ _ _ _ _ _ => raws.length - (intOf i).toNat)
  case atStart => exact ⟨0, _, _, Nat.zero_le _, rfl, HA0.out, fun _ _ => GoodL.nil, HB0.out⟩
  case round =>
    obtain ⟨m, vf, lf, hm, rfl, hA, hG, hBl⟩ := hrel
    have HA := hide hA
    have HG := hide hG
    have HBl := hide hBl
    have hsz := hBl.size
    clear HA0 HB0
    by_cases hlt : m < raws.length
    · obtain ⟨⟨se, ti, bi⟩, hx⟩ : ∃ x, raws[m]? = some x := ⟨_, List.getElem?_eq_getElem hlt⟩
      obtain ⟨b, o, rfl, hbB, c0, c1, c2⟩ := HC.out m (se, ti, bi) hx
      have hxr := HRg.out (se, ti, bi) (List.mem_of_getElem? hx)
      simp only at c0 c1 c2 hxr
      have hbw : b < w.heap.size := by omega
      have k0 := (hBl.cell (p := ⟨b, o + m * 3, none⟩) hbw).trans c0
      have k1 := (hBl.cell (p := ⟨b, o + m * 3 + 1, none⟩) hbw).trans c1
      have k2 := (hBl.cell (p := ⟨b, o + m * 3 + 2, none⟩) hbw).trans c2
      have C1 := hide (pick_any se 4 wr hxr.1 hxr.2.1 (by omega) (by omega))
      have hk4 := pk_lt se 4 (by omega)
      generalize pk se 4 = k at *
      have hcell := hA.cell k hk4
      have hown := hA.own k hk4
      obtain ⟨sa, sc, hvk⟩ := own_shape hown
      have hGk := hG k hk4
      have hlen := hGk.len
      have hk4i : (k : Int) < 4 := by omega
      rw [hvk] at hcell
      have HV := hide hvk
      have HO := hide hown
      clear hA hG hBl c0 c1 c2 hvk hown hx
      go_wp2_with fail
      refine C1.out.mono ?_
      rintro e w1 ⟨rfl, rfl⟩
      clear C1
      by_cases h10 : 10 ≤ (lf k).length
      · go_wp2
        go_roundw
        case rel => exact ⟨m + 1, vf, lf, by omega, by go_num, HA.out, HG.out, HBl.out⟩
        case measure => simp [intOf]; omega
      · have hbw1 : b < w1.heap.size := by omega
        have hbw2 : ¬ b = w1.heap.size := by omega
        go_wp2
        go_region
        have HAW : Hid (AllAt (w1.alloc (.cells #[.int .i64 ti, .int .u64 bi] 34)).drew w.heap.size vf lf) := (HA.out.alloc _).drew
        have HS0 : Hid ((w1.alloc (.cells #[.int .i64 ti, .int .u64 bi] 34)).drew.cell? ⟨w1.heap.size, 0, none⟩ = some (.int .i64 ti)) := World.cell?_alloc_new _ _ _ 0
        have HS1 : Hid ((w1.alloc (.cells #[.int .i64 ti, .int .u64 bi] 34)).drew.cell? ⟨w1.heap.size, 1, none⟩ = some (.int .u64 bi)) := World.cell?_alloc_new _ _ _ 1
        have HF0 : Hid ((w1.alloc (.cells #[.int .i64 ti, .int .u64 bi] 34)).drew.frozen? ⟨w1.heap.size, 0, none⟩ = false) := World.frozen?_alloc_new _ _ _ 0
        have HBW : Hid (Below w.heap.size w (w1.alloc (.cells #[.int .i64 ti, .int .u64 bi] 34)).drew) := (HBl.out.alloc hsz _).drew
        have hk1 := (World.cell?_of_block (a := ⟨b, o + m * 3 + 1, none⟩) (heap_alloc_old w1 (.cells #[.int .i64 ti, .int .u64 bi] 34) (by omega))).trans k1
        have hk1' : (w1.alloc (.cells #[.int .i64 ti, .int .u64 bi] 34)).drew.cell? ⟨b, o + m * 3 + 1, none⟩ = some (.int .i64 ti) := hk1
        have hsW : w1.heap.size < (w1.alloc (.cells #[.int .i64 ti, .int .u64 bi] 34)).drew.heap.size := by show _ < (w1.alloc _).heap.size; simp
        have hsbl : w.heap.size < w1.heap.size := HA.out.lt
        have HSb : Hid (∀ j, j < 4 → ∀ q, (vf j).ownBlock = some q → q < w1.heap.size) := fun j hj q e => (World.ownsRow.lt (HA.out.own j hj) q e).2
        generalize (w1.alloc (.cells #[.int .i64 ti, .int .u64 bi] 34)).drew = W at *
        generalize hsb : w1.heap.size = sb at *
        clear HA HBl hk1 k0 k1 k2 hcell
        by_cases h0 : 0 < (lf k).length
        · have hO1 : W.ownsRow (w.heap.size + 1) 34 2 (.slice sa (lf k).length sc) (lf k).length (samCells (lf k)) := by
            have h1 := HAW.out.own k hk4
            rw [HV.out] at h1; exact h1
          obtain ⟨g, cap, hsv⟩ := own_some hO1 h0
          obtain ⟨q, hq⟩ : ∃ q, (lf k).length = q + 1 := ⟨(lf k).length - 1, by omega⟩
          obtain ⟨⟨tl, bl⟩, hlast⟩ : ∃ x, (lf k)[q]? = some x := ⟨_, List.getElem?_eq_getElem (by omega)⟩
          have hlr := hGk.range (tl, bl) (List.mem_of_getElem? hlast)
          simp only at hlr
          have hcl : W.cell? ⟨g, q * 2, none⟩ = some (.int .i64 tl) := by
            rw [hsv] at hO1
            exact own_cell hO1 (pair_get (fun x : Int × Nat => .int .i64 x.1) (fun x => .int .u64 x.2) (lf k) q (tl, bl) hlast).1
          have hcW := (HV.out ▸ HAW.out.cell k hk4 : W.cell? ⟨w.heap.size, k, none⟩ = some (.slice sa (lf k).length sc))
          cases hsv
          have hni : ((lf k).length : Int) - 1 = (q : Int) := by omega
          have hqi : (q : Int) < ((lf k).length : Int) := by omega
          have C2 := hide (pick_any ti 1000 W hxr.2.2.1 hxr.2.2.2.1 (by omega) (by omega))
          have hst := pk_lt ti 1000 (by omega)
          generalize pk ti 1000 = st at *
          obtain ⟨T, hT⟩ : ∃ T, T = tl + (1 + (st : Int)) := ⟨_, rfl⟩
          have h0i : (0 : Int) < ((lf k).length : Int) := by omega
          have HLast := hide hlast
          have HQ := hide hq
          clear hO1 hlast hq
          go_wp2_with fail
          refine C2.out.mono ?_
          rintro e w2 ⟨rfl, rfl⟩
          clear C2
          by_cases hov : 9223372036854775807 - (1 + (st : Int)) < tl
          · go_wp2
            go_roundw
            case rel => exact ⟨m + 1, vf, lf, by omega, by go_num, HAW.out, HG.out, HBW.out⟩
            case measure => simp [intOf]; omega
          · have hovd : decide (9223372036854775807 - (1 + (st : Int)) < tl) = false := decide_eq_false hov
            have hTw : IntKind.i64.wrap (tl + (1 + (st : Int))) = tl + (1 + (st : Int)) := by rw [IntKind.wrap_i64]; omega
            have s0 := HS0.out
            have f0 := HF0.out
            have HTr : Hid (-9223372036854775808 ≤ T ∧ T ≤ 9223372036854775807 ∧ bi ≤ 18446744073709551615) := ⟨by omega, by omega, hxr.2.2.2.2⟩
            have HTl : Hid (∀ x, (lf k)[(lf k).length - 1]? = some x → x.1 < T) := fun x hx => by
              rw [show (lf k).length - 1 = q by have := HQ.out; omega, HLast.out] at hx
              cases hx
              show tl < T
              omega
            have HTT := hide hT
            clear hT hov
            go_wp2
            have HAW2 : Hid (AllAt (w2.setCell ⟨sb, 0, none⟩ (.int .i64 (tl + (1 + (st : Int))))) w.heap.size vf lf) := HAW.out.setOther (by omega) (fun j hj q e => by have := HSb.out j hj q e; omega) _
            have HT0 : Hid ((w2.setCell ⟨sb, 0, none⟩ (.int .i64 (tl + (1 + (st : Int))))).cell? ⟨sb, 0, none⟩ = some (.int .i64 T)) := by
              rw [HTT.out]; exact World.cell?_setCell_same _ _ _ s0
            have HT1 : Hid ((w2.setCell ⟨sb, 0, none⟩ (.int .i64 (tl + (1 + (st : Int))))).cell? ⟨sb, 1, none⟩ = some (.int .u64 bi)) := by
              show _ = _
              rw [World.cell?_setCell_other _ _ _ _ (fun e => absurd (congrArg Addr.off e) (by simp))]; exact HS1.out
            have HBW2 : Hid (Below w.heap.size w (w2.setCell ⟨sb, 0, none⟩ (.int .i64 (tl + (1 + (st : Int)))))) := HBW.out.setCell (p := ⟨sb, 0, none⟩) (by show w.heap.size ≤ sb; omega) _
            generalize w2.setCell ⟨sb, 0, none⟩ (.int .i64 (tl + (1 + (st : Int)))) = W2 at *
            clear HAW HBW HS0 HS1 s0 f0 hcl hcW hTw hovd HLast HQ HTT hk1'
            have s0 := HT0.out
            have s1 := HT1.out
            have HLf : Hid (∀ j, j < 4 → GoodL (if j = k then lf k ++ [(T, bi)] else lf j)) := fun j hj => by
              by_cases e : j = k
              · rw [if_pos e]; exact hGk.snoc (by omega) HTr.out (fun x hx => HTl.out x hx)
              · rw [if_neg e]; exact HG.out j hj
            have hcW := (HV.out ▸ HAW2.out.cell k hk4 : W2.cell? ⟨w.heap.size, k, none⟩ = some (.slice (some ⟨g, 0, none⟩) (lf k).length sc))
            have frW := HAW2.out.fr k
            have hsbne : ∀ q, (Value.slice (some ⟨g, 0, none⟩) (lf k).length sc).ownBlock = some q → w.heap.size + 1 ≤ q ∧ q < sb := fun q e => by
              have h1 := HO.out
              rw [HV.out] at h1
              have h2 := World.ownsRow.lt h1 q e
              exact ⟨h2.1, by rw [← hsb]; exact h2.2⟩
            have HOW : Hid (W2.ownsRow (w.heap.size + 1) 34 2 (.slice (some ⟨g, 0, none⟩) (lf k).length sc) (lf k).length (samCells (lf k))) := by
              have h1 := HAW2.out.own k hk4
              rw [HV.out] at h1; exact h1
            refine region_anyL (S := fun w' => w'.cell? ⟨w.heap.size, k, none⟩ = some (.slice (some ⟨g, 0, none⟩) (lf k).length sc) ∧ w'.cell? ⟨sb, 0, none⟩ = some (.int .i64 T) ∧ w'.cell? ⟨sb, 1, none⟩ = some (.int .u64 (bi : Nat))) 8 (by kernel_rfl) ⟨hcW, s0, s1⟩ (fun hS => ?_)
            refine anyL_take 0 (oi := ?zo1) (v := ?zv1) ?zhi1 (by kernel_rfl) (by kernel_rfl) (by kernel_rfl) (by kernel_rfl) (by kernel_rfl) (by kernel_rfl) ?zq1 (Or.inl ⟨?zwa1, ?zy1⟩) hS ?zrest1
            case zhi1 => simp only [List.getElem?_toArray, List.getElem?_cons_zero, List.getElem?_cons_succ]; rfl
            case zwa1 => rfl
            case zy1 => intro wz hz; obtain ⟨z1, z2, z3⟩ := hz; go_simp <;> rfl
            case zq1 => exact fun _ _ _ h => h
            simp only [Act.put, List.setIfInBounds_toArray, List.set_cons_zero, List.set_cons_succ]
            refine anyL_take 1 (oi := ?zo2) (v := ?zv2) ?zhi2 (by kernel_rfl) (by kernel_rfl) (by kernel_rfl) (by kernel_rfl) (by kernel_rfl) (by kernel_rfl) ?zq2 (Or.inl ⟨?zwa2, ?zy2⟩) hS ?zrest2
            case zhi2 => simp only [List.getElem?_toArray, List.getElem?_cons_zero, List.getElem?_cons_succ]; rfl
            case zwa2 => rfl
            case zy2 => intro wz hz; obtain ⟨z1, z2, z3⟩ := hz; go_simp <;> rfl
            case zq2 => exact fun _ _ _ h => h
            simp only [Act.put, List.setIfInBounds_toArray, List.set_cons_zero, List.set_cons_succ]
            refine anyL_take 2 (oi := ?zo3) (v := ?zv3) ?zhi3 (by kernel_rfl) (by kernel_rfl) (by kernel_rfl) (by kernel_rfl) (by kernel_rfl) (by kernel_rfl) ?zq3 (Or.inl ⟨?zwa3, ?zy3⟩) hS ?zrest3
            case zhi3 => simp only [List.getElem?_toArray, List.getElem?_cons_zero, List.getElem?_cons_succ]; rfl
            case zwa3 => rfl
            case zy3 => intro wz hz; obtain ⟨z1, z2, z3⟩ := hz; go_simp <;> rfl
            case zq3 => exact fun _ _ _ h => h
            simp only [Act.put, List.setIfInBounds_toArray, List.set_cons_zero, List.set_cons_succ]
            refine anyL_take 3 (oi := ?zo4) (v := ?zv4) ?zhi4 (by kernel_rfl) (by kernel_rfl) (by kernel_rfl) (by kernel_rfl) (by kernel_rfl) (by kernel_rfl) ?zq4 (Or.inl ⟨?zwa4, ?zy4⟩) hS ?zrest4
            case zhi4 => simp only [List.getElem?_toArray, List.getElem?_cons_zero, List.getElem?_cons_succ]; rfl
            case zwa4 => rfl
            case zy4 => intro wz hz; obtain ⟨z1, z2, z3⟩ := hz; go_simp <;> rfl
            case zq4 => exact fun _ _ _ h => h
            simp only [Act.put, List.setIfInBounds_toArray, List.set_cons_zero, List.set_cons_succ]
            refine anyL_take 4 (oi := ?zo5) (v := ?zv5) ?zhi5 (by kernel_rfl) (by kernel_rfl) (by kernel_rfl) (by kernel_rfl) (by kernel_rfl) (by kernel_rfl) ?zq5 (Or.inl ⟨?zwa5, ?zy5⟩) hS ?zrest5
            case zhi5 => simp only [List.getElem?_toArray, List.getElem?_cons_zero, List.getElem?_cons_succ]; rfl
            case zwa5 => rfl
            case zy5 => intro wz hz; obtain ⟨z1, z2, z3⟩ := hz; go_simp <;> rfl
            case zq5 => exact fun _ _ _ h => h
            simp only [Act.put, List.setIfInBounds_toArray, List.set_cons_zero, List.set_cons_succ]
            refine anyL_one 5 (o := ?zo6) (by kernel_rfl) ?zhi6 (by kernel_rfl) ?zst6
            case zhi6 => simp only [List.getElem?_toArray, List.getElem?_cons_zero, List.getElem?_cons_succ]; rfl
            intro K hK
            go_simp
            refine hK.out _ _ ⟨(World.cell?_of_block (a := ⟨w.heap.size, k, none⟩) (heap_alloc_old W2.drew _ HAW2.out.lt)).trans hcW, (World.cell?_of_block (a := ⟨sb, 0, none⟩) (heap_alloc_old W2.drew _ (World.block_lt_of_cell? W2 _ s0))).trans s0, (World.cell?_of_block (a := ⟨sb, 1, none⟩) (heap_alloc_old W2.drew _ (World.block_lt_of_cell? W2 _ s1))).trans s1⟩ (fun hS2 => ?_)
            clear hK K hS
            refine anyL_one 6 (o := ?zoA12) (by kernel_rfl) ?zhiA12 (by kernel_rfl) ?zstA12
            case zhiA12 => simp only [List.getElem?_toArray, List.getElem?_cons_zero, List.getElem?_cons_succ]; rfl
            intro K hK
            rw [if_pos (by rfl)]
            refine wp_append_heir _ (.tmp 69) (.tmp 71) 35 rfl (w.heap.size + 1) 34 i0 _ 2 16 Tryz.underlying35 hi hz0 hz1 hz2 rfl (by decide) (.slice (some ⟨g, 0, none⟩) (lf k).length sc) (lf k).length (samCells (lf k)) rfl (own_alloc (own_drewN HOW.out 1) _) ⟨W2.heap.size, 0, none⟩ 1 1 [.int .i64 T, .int .u64 bi] rfl rfl (cells_new W2.drew _ _) (one_two rfl rfl) (by unfold maxLen; omega) (by omega) (by have := HAW2.out.lt; simp; omega) ?_
            intro v' w5 ho5 hg5 hh5
            obtain ⟨sa', sc', rfl⟩ := own_shape ho5
            have hne5 : ∀ q, q = w.heap.size ∨ q = sb → some q ≠ (Value.slice (some ⟨g, 0, none⟩) (lf k).length sc).ownBlock := fun q hq e => by have := hsbne q e.symm; omega
            have hb5 : ∀ q, q = w.heap.size ∨ q = sb → w5.heap[q]? = W2.heap[q]? := fun q hq => by
              have hqW : q < W2.heap.size := by
                rcases hq with rfl | rfl
                · exact HAW2.out.lt
                · exact World.block_lt_of_cell? W2 _ s0
              rw [hg5.block q (by simp; omega) (hne5 q hq)]
              exact heap_alloc_old W2.drew _ hqW
            have hc5 := (World.cell?_of_block (a := ⟨w.heap.size, k, none⟩) (hb5 _ (.inl rfl))).trans hcW
            have fr5 := (World.frozen?_of_block (a := ⟨w.heap.size, k, none⟩) (hb5 _ (.inl rfl))).trans frW
            refine hK.out _ _ ⟨hc5, (World.cell?_of_block (a := ⟨sb, 0, none⟩) (hb5 _ (.inr rfl))).trans s0, (World.cell?_of_block (a := ⟨sb, 1, none⟩) (hb5 _ (.inr rfl))).trans s1⟩ (fun hS3 => ?_)
            have HA5 := hide (((HAW2.out.drew).alloc (.cells #[.int .i64 T, .int .u64 bi] 34)).step (x := (T, bi)) hk4 ho5 (by rw [HV.out]; exact hg5) (by rw [HV.out]; exact hh5))
            have HB5 : Hid (Below w.heap.size w (w5.setCell ⟨w.heap.size, k, none⟩ (.slice sa' ((lf k).length + 1) sc'))) := (below_grownAt (HBW2.out.drew.alloc HBW2.out.size (.cells #[.int .i64 T, .int .u64 bi] 34)) hg5 (by have := HBW2.out.size; show _ ≤ (W2.drew.alloc _).heap.size; simp; omega) (fun q e => by have := hsbne q e; omega)).setCell (p := ⟨w.heap.size, k, none⟩) (Nat.le_refl _) _
            clear hK K hS2 hb5 hne5 ho5 hg5 hh5 HAW2 HBW2 HOW hcW frW s0 s1 hsbne
            simp only [Act.put, List.setIfInBounds_toArray, List.set_cons_zero, List.set_cons_succ]
            refine anyL_take 7 (oi := ?zo7) (v := ?zv7) ?zhi7 (by kernel_rfl) (by kernel_rfl) (by kernel_rfl) (by kernel_rfl) (by kernel_rfl) (by kernel_rfl) ?zq7 (Or.inl ⟨?zwa7, ?zy7⟩) hS3 ?zrest7
            case zhi7 => simp only [List.getElem?_toArray, List.getElem?_cons_zero, List.getElem?_cons_succ]; rfl
            case zwa7 => rfl
            case zy7 => intro wz hz; obtain ⟨z1, z2, z3⟩ := hz; go_simp <;> rfl
            case zq7 => exact fun _ _ _ h => h
            simp only [Act.put, List.setIfInBounds_toArray, List.set_cons_zero, List.set_cons_succ]
            refine anyL_last 8 (o := ?zo8) (by kernel_rfl) ?zhi8 (by kernel_rfl) (by kernel_rfl) ?zst8
            case zhi8 => simp only [List.getElem?_toArray, List.getElem?_cons_zero, List.getElem?_cons_succ]; rfl
            intro K hK
            go_simp
            refine hK.out _ _ ?_
            clear hK K hS3
            go_wp2
            go_roundw
            case rel => exact ⟨m + 1, _, _, by omega, by go_num, HA5.out, HLf.out, HB5.out⟩
            case measure => simp [intOf]; omega
        · go_wp2
          have s0 := HS0.out
          have s1 := HS1.out
          have HLf : Hid (∀ j, j < 4 → GoodL (if j = k then lf k ++ [(ti, bi)] else lf j)) := fun j hj => by
            by_cases e : j = k
            · rw [if_pos e]; exact hGk.snoc (by omega) ⟨hxr.2.2.1, hxr.2.2.2.1, hxr.2.2.2.2⟩ (fun x hx => by rw [List.getElem?_eq_none (by omega)] at hx; cases hx)
            · rw [if_neg e]; exact HG.out j hj
          have hcW := (HV.out ▸ HAW.out.cell k hk4 : W.cell? ⟨w.heap.size, k, none⟩ = some (.slice sa (lf k).length sc))
          have frW := HAW.out.fr k
          have hsbne : ∀ q, (Value.slice sa (lf k).length sc).ownBlock = some q → w.heap.size + 1 ≤ q ∧ q < sb := fun q e => by
            have h1 := HO.out
            rw [HV.out] at h1
            have h2 := World.ownsRow.lt h1 q e
            exact ⟨h2.1, by rw [← hsb]; exact h2.2⟩
          have HOW : Hid (W.ownsRow (w.heap.size + 1) 34 2 (.slice sa (lf k).length sc) (lf k).length (samCells (lf k))) := by
            have h1 := HAW.out.own k hk4
            rw [HV.out] at h1; exact h1
          refine region_anyL (S := fun w' => w'.cell? ⟨w.heap.size, k, none⟩ = some (.slice sa (lf k).length sc) ∧ w'.cell? ⟨sb, 0, none⟩ = some (.int .i64 ti) ∧ w'.cell? ⟨sb, 1, none⟩ = some (.int .u64 (bi : Nat))) 8 (by kernel_rfl) ⟨hcW, s0, s1⟩ (fun hS => ?_)
          refine anyL_take 0 (oi := ?zo9) (v := ?zv9) ?zhi9 (by kernel_rfl) (by kernel_rfl) (by kernel_rfl) (by kernel_rfl) (by kernel_rfl) (by kernel_rfl) ?zq9 (Or.inl ⟨?zwa9, ?zy9⟩) hS ?zrest9
          case zhi9 => simp only [List.getElem?_toArray, List.getElem?_cons_zero, List.getElem?_cons_succ]; rfl
          case zwa9 => rfl
          case zy9 => intro wz hz; obtain ⟨z1, z2, z3⟩ := hz; go_simp <;> rfl
          case zq9 => exact fun _ _ _ h => h
          simp only [Act.put, List.setIfInBounds_toArray, List.set_cons_zero, List.set_cons_succ]
          refine anyL_take 1 (oi := ?zo10) (v := ?zv10) ?zhi10 (by kernel_rfl) (by kernel_rfl) (by kernel_rfl) (by kernel_rfl) (by kernel_rfl) (by kernel_rfl) ?zq10 (Or.inl ⟨?zwa10, ?zy10⟩) hS ?zrest10
          case zhi10 => simp only [List.getElem?_toArray, List.getElem?_cons_zero, List.getElem?_cons_succ]; rfl
          case zwa10 => rfl
          case zy10 => intro wz hz; obtain ⟨z1, z2, z3⟩ := hz; go_simp <;> rfl
          case zq10 => exact fun _ _ _ h => h
          simp only [Act.put, List.setIfInBounds_toArray, List.set_cons_zero, List.set_cons_succ]
          refine anyL_take 2 (oi := ?zo11) (v := ?zv11) ?zhi11 (by kernel_rfl) (by kernel_rfl) (by kernel_rfl) (by kernel_rfl) (by kernel_rfl) (by kernel_rfl) ?zq11 (Or.inl ⟨?zwa11, ?zy11⟩) hS ?zrest11
          case zhi11 => simp only [List.getElem?_toArray, List.getElem?_cons_zero, List.getElem?_cons_succ]; rfl
          case zwa11 => rfl
          case zy11 => intro wz hz; obtain ⟨z1, z2, z3⟩ := hz; go_simp <;> rfl
          case zq11 => exact fun _ _ _ h => h
          simp only [Act.put, List.setIfInBounds_toArray, List.set_cons_zero, List.set_cons_succ]
          refine anyL_take 3 (oi := ?zo12) (v := ?zv12) ?zhi12 (by kernel_rfl) (by kernel_rfl) (by kernel_rfl) (by kernel_rfl) (by kernel_rfl) (by kernel_rfl) ?zq12 (Or.inl ⟨?zwa12, ?zy12⟩) hS ?zrest12
          case zhi12 => simp only [List.getElem?_toArray, List.getElem?_cons_zero, List.getElem?_cons_succ]; rfl
          case zwa12 => rfl
          case zy12 => intro wz hz; obtain ⟨z1, z2, z3⟩ := hz; go_simp <;> rfl
          case zq12 => exact fun _ _ _ h => h
          simp only [Act.put, List.setIfInBounds_toArray, List.set_cons_zero, List.set_cons_succ]
          refine anyL_take 4 (oi := ?zo13) (v := ?zv13) ?zhi13 (by kernel_rfl) (by kernel_rfl) (by kernel_rfl) (by kernel_rfl) (by kernel_rfl) (by kernel_rfl) ?zq13 (Or.inl ⟨?zwa13, ?zy13⟩) hS ?zrest13
          case zhi13 => simp only [List.getElem?_toArray, List.getElem?_cons_zero, List.getElem?_cons_succ]; rfl
          case zwa13 => rfl
          case zy13 => intro wz hz; obtain ⟨z1, z2, z3⟩ := hz; go_simp <;> rfl
          case zq13 => exact fun _ _ _ h => h
          simp only [Act.put, List.setIfInBounds_toArray, List.set_cons_zero, List.set_cons_succ]
          refine anyL_one 5 (o := ?zo14) (by kernel_rfl) ?zhi14 (by kernel_rfl) ?zst14
          case zhi14 => simp only [List.getElem?_toArray, List.getElem?_cons_zero, List.getElem?_cons_succ]; rfl
          intro K hK
          go_simp
          refine hK.out _ _ ⟨(World.cell?_of_block (a := ⟨w.heap.size, k, none⟩) (heap_alloc_old W.drew _ HAW.out.lt)).trans hcW, (World.cell?_of_block (a := ⟨sb, 0, none⟩) (heap_alloc_old W.drew _ (World.block_lt_of_cell? W _ s0))).trans s0, (World.cell?_of_block (a := ⟨sb, 1, none⟩) (heap_alloc_old W.drew _ (World.block_lt_of_cell? W _ s1))).trans s1⟩ (fun hS2 => ?_)
          clear hK K hS
          refine anyL_one 6 (o := ?zoA10) (by kernel_rfl) ?zhiA10 (by kernel_rfl) ?zstA10
          case zhiA10 => simp only [List.getElem?_toArray, List.getElem?_cons_zero, List.getElem?_cons_succ]; rfl
          intro K hK
          rw [if_pos (by rfl)]
          refine wp_append_heir _ (.tmp 69) (.tmp 71) 35 rfl (w.heap.size + 1) 34 i0 _ 2 16 Tryz.underlying35 hi hz0 hz1 hz2 rfl (by decide) (.slice sa (lf k).length sc) (lf k).length (samCells (lf k)) rfl (own_alloc (own_drewN HOW.out 1) _) ⟨W.heap.size, 0, none⟩ 1 1 [.int .i64 ti, .int .u64 bi] rfl rfl (cells_new W.drew _ _) (one_two rfl rfl) (by unfold maxLen; omega) (by omega) (by have := HAW.out.lt; simp; omega) ?_
          intro v' w5 ho5 hg5 hh5
          obtain ⟨sa', sc', rfl⟩ := own_shape ho5
          have hne5 : ∀ q, q = w.heap.size ∨ q = sb → some q ≠ (Value.slice sa (lf k).length sc).ownBlock := fun q hq e => by have := hsbne q e.symm; omega
          have hb5 : ∀ q, q = w.heap.size ∨ q = sb → w5.heap[q]? = W.heap[q]? := fun q hq => by
            have hqW : q < W.heap.size := by
              rcases hq with rfl | rfl
              · exact HAW.out.lt
              · exact World.block_lt_of_cell? W _ s0
            rw [hg5.block q (by simp; omega) (hne5 q hq)]
            exact heap_alloc_old W.drew _ hqW
          have hc5 := (World.cell?_of_block (a := ⟨w.heap.size, k, none⟩) (hb5 _ (.inl rfl))).trans hcW
          have fr5 := (World.frozen?_of_block (a := ⟨w.heap.size, k, none⟩) (hb5 _ (.inl rfl))).trans frW
          refine hK.out _ _ ⟨hc5, (World.cell?_of_block (a := ⟨sb, 0, none⟩) (hb5 _ (.inr rfl))).trans s0, (World.cell?_of_block (a := ⟨sb, 1, none⟩) (hb5 _ (.inr rfl))).trans s1⟩ (fun hS3 => ?_)
          have HA5 := hide (((HAW.out.drew).alloc (.cells #[.int .i64 ti, .int .u64 bi] 34)).step (x := (ti, bi)) hk4 ho5 (by rw [HV.out]; exact hg5) (by rw [HV.out]; exact hh5))
          have HB5 : Hid (Below w.heap.size w (w5.setCell ⟨w.heap.size, k, none⟩ (.slice sa' ((lf k).length + 1) sc'))) := (below_grownAt (HBW.out.drew.alloc HBW.out.size (.cells #[.int .i64 ti, .int .u64 bi] 34)) hg5 (by have := HBW.out.size; show _ ≤ (W.drew.alloc _).heap.size; simp; omega) (fun q e => by have := hsbne q e; omega)).setCell (p := ⟨w.heap.size, k, none⟩) (Nat.le_refl _) _
          clear hK K hS2 hb5 hne5 ho5 hg5 hh5 HAW HBW HOW hcW frW s0 s1 hsbne
          simp only [Act.put, List.setIfInBounds_toArray, List.set_cons_zero, List.set_cons_succ]
          refine anyL_take 7 (oi := ?zo15) (v := ?zv15) ?zhi15 (by kernel_rfl) (by kernel_rfl) (by kernel_rfl) (by kernel_rfl) (by kernel_rfl) (by kernel_rfl) ?zq15 (Or.inl ⟨?zwa15, ?zy15⟩) hS3 ?zrest15
          case zhi15 => simp only [List.getElem?_toArray, List.getElem?_cons_zero, List.getElem?_cons_succ]; rfl
          case zwa15 => rfl
          case zy15 => intro wz hz; obtain ⟨z1, z2, z3⟩ := hz; go_simp <;> rfl
          case zq15 => exact fun _ _ _ h => h
          simp only [Act.put, List.setIfInBounds_toArray, List.set_cons_zero, List.set_cons_succ]
          refine anyL_last 8 (o := ?zo16) (by kernel_rfl) ?zhi16 (by kernel_rfl) (by kernel_rfl) ?zst16
          case zhi16 => simp only [List.getElem?_toArray, List.getElem?_cons_zero, List.getElem?_cons_succ]; rfl
          intro K hK
          go_simp
          refine hK.out _ _ ?_
          clear hK K hS3
          go_wp2
          go_roundw
          case rel => exact ⟨m + 1, _, _, by omega, by go_num, HA5.out, HLf.out, HB5.out⟩
          case measure => simp [intOf]; omega
    · have HA2 := hide hA
      clear hA hG hBl HC HRg
      go_wp2
      go_loopw [10, 11] (fun o i wr => ∃ n : Nat, n ≤ 4 ∧ i = .int .i64 n ∧ EntsAt wr w.heap.size o (kbs lf n) ∧ AllAt wr w.heap.size vf lf ∧ (∀ j, j < 4 → Off (vf j) o) ∧ Below w.heap.size w wr) (fun _ i _ => 4 - (intOf i).toNat)
      case atStart => exact ⟨0, Nat.zero_le _, rfl, ⟨[], rfl, World.ownsRow_nil _ _ _ _, fun i p x h => by simp at h⟩, HA.out, fun j hj k e e' => (by cases e'), HBl.out⟩
      case round =>
        obtain ⟨n, hn, rfl, hE, hA, hoff, hBl⟩ := hrel
        have HE := hide hE
        have HA := hide hA
        have HOff := hide hoff
        have HBl := hide hBl
        have hsz := hBl.size
        by_cases hlt4 : n < 4
        · obtain ⟨sa, sc, hvk⟩ := own_shape (hA.own n hlt4)
          have hcell := hA.cell n hlt4
          rw [hvk] at hcell
          have HV := hide hvk
          have hk4i : (n : Int) < 4 := by omega
          have hlen := (HG.out n hlt4).len
          clear hE hA hoff hBl hvk
          by_cases h0 : 0 < (lf n).length
          · have HK : Hid (kbs lf (n + 1) = kbs lf n ++ [(labsOf n, lf n)]) := if_pos h0
            have CL := hide (fun W => klabels_any n W hlt4)
            have h0i : (0 : Int) < ((lf n).length : Int) := by omega
            go_wp2
            refine region_anyL (S := fun w' => w'.cell? ⟨w.heap.size, n, none⟩ = some (.slice sa (lf n).length sc) ∧ True ∧ True) 9 (by kernel_rfl) ⟨hcell, trivial, trivial⟩ (fun hS => ?_)
            refine anyL_take 0 (oi := ?zo201) (v := ?zv201) ?zhi201 (by kernel_rfl) (by kernel_rfl) (by kernel_rfl) (by kernel_rfl) (by kernel_rfl) (by kernel_rfl) ?zq201 (Or.inl ⟨?zwa201, ?zy201⟩) hS ?zrest201
            case zhi201 => simp only [List.getElem?_toArray, List.getElem?_cons_zero, List.getElem?_cons_succ]; rfl
            case zwa201 => rfl
            case zy201 => intro wz hz; obtain ⟨z1, z2, z3⟩ := hz; go_simp <;> rfl
            case zq201 => exact fun _ _ _ h => h
            simp only [Act.put, List.setIfInBounds_toArray, List.set_cons_zero, List.set_cons_succ]
            refine anyL_take 1 (oi := ?zo202) (v := ?zv202) ?zhi202 (by kernel_rfl) (by kernel_rfl) (by kernel_rfl) (by kernel_rfl) (by kernel_rfl) (by kernel_rfl) ?zq202 (Or.inl ⟨?zwa202, ?zy202⟩) hS ?zrest202
            case zhi202 => simp only [List.getElem?_toArray, List.getElem?_cons_zero, List.getElem?_cons_succ]; rfl
            case zwa202 => rfl
            case zy202 => intro wz hz; obtain ⟨z1, z2, z3⟩ := hz; go_simp <;> rfl
            case zq202 => exact fun _ _ _ h => h
            simp only [Act.put, List.setIfInBounds_toArray, List.set_cons_zero, List.set_cons_succ]
            refine anyL_take 3 (oi := ?zo203) (v := ?zv203) ?zhi203 (by kernel_rfl) (by kernel_rfl) (by kernel_rfl) (by kernel_rfl) (by kernel_rfl) (by kernel_rfl) ?zq203 (Or.inl ⟨?zwa203, ?zy203⟩) hS ?zrest203
            case zhi203 => simp only [List.getElem?_toArray, List.getElem?_cons_zero, List.getElem?_cons_succ]; rfl
            case zwa203 => rfl
            case zy203 => intro wz hz; obtain ⟨z1, z2, z3⟩ := hz; go_simp <;> rfl
            case zq203 => exact fun _ _ _ h => h
            simp only [Act.put, List.setIfInBounds_toArray, List.set_cons_zero, List.set_cons_succ]
            refine anyL_take 4 (oi := ?zo204) (v := ?zv204) ?zhi204 (by kernel_rfl) (by kernel_rfl) (by kernel_rfl) (by kernel_rfl) (by kernel_rfl) (by kernel_rfl) ?zq204 (Or.inl ⟨?zwa204, ?zy204⟩) hS ?zrest204
            case zhi204 => simp only [List.getElem?_toArray, List.getElem?_cons_zero, List.getElem?_cons_succ]; rfl
            case zwa204 => rfl
            case zy204 => intro wz hz; obtain ⟨z1, z2, z3⟩ := hz; go_simp <;> rfl
            case zq204 => exact fun _ _ _ h => h
            simp only [Act.put, List.setIfInBounds_toArray, List.set_cons_zero, List.set_cons_succ]
            refine anyL_take 5 (oi := ?zo205) (v := ?zv205) ?zhi205 (by kernel_rfl) (by kernel_rfl) (by kernel_rfl) (by kernel_rfl) (by kernel_rfl) (by kernel_rfl) ?zq205 (Or.inl ⟨?zwa205, ?zy205⟩) hS ?zrest205
            case zhi205 => simp only [List.getElem?_toArray, List.getElem?_cons_zero, List.getElem?_cons_succ]; rfl
            case zwa205 => rfl
            case zy205 => intro wz hz; obtain ⟨z1, z2, z3⟩ := hz; go_simp <;> rfl
            case zq205 => exact fun _ _ _ h => h
            simp only [Act.put, List.setIfInBounds_toArray, List.set_cons_zero, List.set_cons_succ]
            refine anyL_one 2 (o := ?zo206) (by kernel_rfl) ?zhi206 (by kernel_rfl) ?zst206
            case zhi206 => simp only [List.getElem?_toArray, List.getElem?_cons_zero, List.getElem?_cons_succ]; rfl
            intro K hK
            go_simp
            refine (CL.out _).mono ?_
            rintro e w3 ⟨lv, rfl, hL3, hLb3, hb3⟩
            obtain ⟨la, lc, rfl, _⟩ := id hL3
            obtain ⟨vals, hvl, hvo, hve⟩ := HE.out
            have hul : ∀ k, u10.ownBlock = some k → w.heap.size + 1 ≤ k ∧ k < wr.heap.size := fun k e => World.ownsRow.lt hvo k e
            have hb3' : Below wr.heap.size wr w3 := ((Below.refl wr.heap.size wr).drew).trans hb3
            have hs3 := hb3'.size
            have haw : w.heap.size < wr.heap.size := HA.out.lt
            have hcell3 := (World.cell?_of_block (a := ⟨w.heap.size, n, none⟩) (hb3'.block _ haw)).trans hcell
            have HO3 := hide (own_kept hvo (w' := w3) fun k e => hb3'.block k (hul k e).2)
            have HL3 := hide hL3
            have HLb3 : Hid (∀ k, (Value.slice la (labsOf n).length lc).ownBlock = some k → wr.heap.size ≤ k ∧ k < w3.heap.size) := hLb3
            have HB3 := hide hb3'
            have HVE := hide hve
            have HVL := hide hvl
            have HUL := hide hul
            refine hK.out _ _ ⟨hcell3, trivial, trivial⟩ (fun hS2 => ?_)
            clear hK K hS hL3 hLb3 hb3 hb3' hvl hvo hve hul CL hcell HE
            refine anyL_take 6 (oi := ?zo207) (v := ?zv207) ?zhi207 (by kernel_rfl) (by kernel_rfl) (by kernel_rfl) (by kernel_rfl) (by kernel_rfl) (by kernel_rfl) ?zq207 (Or.inl ⟨?zwa207, ?zy207⟩) hS2 ?zrest207
            case zhi207 => simp only [List.getElem?_toArray, List.getElem?_cons_zero, List.getElem?_cons_succ]; rfl
            case zwa207 => rfl
            case zy207 => intro wz hz; obtain ⟨z1, z2, z3⟩ := hz; go_simp <;> rfl
            case zq207 => exact fun _ _ _ h => h
            simp only [Act.put, List.setIfInBounds_toArray, List.set_cons_zero, List.set_cons_succ]
            refine anyL_one 7 (o := ?zo208) (by kernel_rfl) ?zhi208 (by kernel_rfl) ?zst208
            case zhi208 => simp only [List.getElem?_toArray, List.getElem?_cons_zero, List.getElem?_cons_succ]; rfl
            intro K hK
            go_simp
            refine hK.out _ _ ⟨(World.cell?_of_block (a := ⟨w.heap.size, n, none⟩) (heap_alloc_old w3 _ (Nat.lt_of_lt_of_le haw hs3))).trans hcell3, trivial, trivial⟩ (fun hS3 => ?_)
            clear hK K hS2
            refine anyL_one 8 (o := ?zoB) (by kernel_rfl) ?zhiB (by kernel_rfl) ?zstB
            case zhiB => simp only [List.getElem?_toArray, List.getElem?_cons_zero, List.getElem?_cons_succ]; rfl
            intro K hK
            rw [if_pos (by rfl)]
            refine wp_append_heir _ (.tmp 83) (.tmp 90) 39 rfl (w.heap.size + 1) 38 i1 _ 2 48 Tryz.underlying39 hi1 hy0 hy1 hy2 rfl (by decide) u10 (kbs lf n).length (serCells vals) rfl (own_alloc HO3.out _) ⟨w3.heap.size, 0, none⟩ 1 1 [.slice la (labsOf n).length lc, .slice sa (lf n).length sc] rfl rfl (cells_new w3 _ _) (one_two rfl rfl) (by have := kbs_len lf n; unfold maxLen; omega) (by have := kbs_len lf n; omega) (by simp; omega) ?_
            intro v' w5 ho5 hg5 hh5
            have hsz5 : w3.heap.size + 1 ≤ w5.heap.size := by have := hg5.size; simpa using this
            have hb5 : ∀ k, k < w3.heap.size → some k ≠ u10.ownBlock → w5.heap[k]? = w3.heap[k]? := fun k hk hne => (hg5.block k (by simp; omega) hne).trans (heap_alloc_old w3 _ hk)
            have hb5r : ∀ k, k < wr.heap.size → some k ≠ u10.ownBlock → w5.heap[k]? = wr.heap[k]? := fun k hk hne => (hb5 k (by omega) hne).trans (HB3.out.block k hk)
            have hsa : Heir w3 u10 v' := hh5.of_alloc
            have HA5 := hide (HA.out.other hb5r (fun e => by have := (HUL.out _ e.symm).1; omega) HOff.out)
            have HOff5 : Hid (∀ j, j < 4 → Off (vf j) v') := fun j hj => off_heir (HOff.out j hj) hsa (fun k e => by have := (World.ownsRow.lt (HA.out.own j hj) k e).2; omega)
            have hent : Ent w5 v' (.slice la (labsOf n).length lc, .slice sa (lf n).length sc) (labsOf n, lf n) := by
              refine ⟨labs_kept HL3.out (fun k e => hb5 k (HLb3.out k e).2 (fun e' => by have h1 := (HLb3.out k e).1; have h2 := (HUL.out k e'.symm).2; omega)) (by omega), ?_, ?_, ?_, fun k e => by have := (HLb3.out k e).2; omega, fun k e => ?_⟩
              · have h1 := samples_at (HA5.out.own n hlt4) (HG.out n hlt4).range
                rw [HV.out] at h1; exact h1
              · exact off_heir (fun k e e' => by have h1 := (HLb3.out k e).1; have h2 := (HUL.out k e').2; omega) hsa (fun k e => (HLb3.out k e).2)
              · have h1 := HOff5.out n hlt4
                rw [HV.out] at h1; exact h1
              · have h1 := HA5.out.own n hlt4
                rw [HV.out] at h1
                exact (World.ownsRow.lt h1 k e).2
            have HE5 : Hid (EntsAt w5 w.heap.size v' (kbs lf (n + 1))) := by
              rw [HK.out]
              exact EntsAt.snoc HVL.out HVE.out ho5 hb5r (by omega) hsa (by omega) hent
            have HB5 : Hid (Below w.heap.size w w5) := below_grownAt ((HBl.out.trans (HB3.out.mono (by omega))).alloc (by omega) _) hg5 (by simp; omega) (fun k e => by have := (HUL.out k e).1; omega)
            refine hK.out _ _ ⟨(World.cell?_of_block (a := ⟨w.heap.size, n, none⟩) (hb5 _ (Nat.lt_of_lt_of_le haw hs3) (fun e => by have : w.heap.size + 1 ≤ w.heap.size := (HUL.out w.heap.size e.symm).1; omega))).trans hcell3, trivial, trivial⟩ (fun hS4 => ?_)
            clear hK K hS3 hent hb5 hb5r hsa ho5 hg5 hh5 HO3 HL3 HLb3 HB3 HVE HVL HUL HK HA HBl hcell3
            simp only [Act.put, List.setIfInBounds_toArray, List.set_cons_zero, List.set_cons_succ]
            refine anyL_last 9 (o := ?zo209) (by kernel_rfl) ?zhi209 (by kernel_rfl) (by kernel_rfl) ?zst209
            case zhi209 => simp only [List.getElem?_toArray, List.getElem?_cons_zero, List.getElem?_cons_succ]; rfl
            intro K hK
            go_simp
            refine hK.out _ _ ?_
            clear hK K hS4
            go_wp2
            go_roundw
            case rel => exact ⟨n + 1, by omega, by go_num, HE5.out, HA5.out, HOff5.out, HB5.out⟩
            case measure => simp [intOf]; omega
          · have HK : Hid (kbs lf (n + 1) = kbs lf n) := if_neg h0
            have h0i : ¬ (0 : Int) < ((lf n).length : Int) := by omega
            go_wp2
            go_roundw
            case rel => exact ⟨n + 1, by omega, by go_num, by rw [HK.out]; exact HE.out, HA.out, HOff.out, HBl.out⟩
            case measure => simp [intOf]; omega
        · have hn4 : n = 4 := by omega
          subst hn4
          clear hE hA hoff hBl
          go_wp2
          go_ret
          have hok := kbs_ok lf HG.out
          exact ⟨_, kbs lf 4, rfl, HE.out.batchAt, hok.1, hok.2.1, hok.2.2, kbs_kb lf HG.out, HBl.out⟩
theorem kbatch_any (B : Nat) (v : Value) (raws : List (Int × Int × Nat)) (w : World) (hR : RawsAt w B v raws) (hB : B ≤ w.heap.size) (hl : raws.length ≤ 100000000000000) :
    Calls Tryz.prog 13 #[v] w fun e w' => ∃ v' bs, e = .returned v' ∧ BatchAt w' w'.heap.size v' bs ∧ BatchOk bs ∧ LimitsOk bs ∧ InRange bs ∧ Below w.heap.size w w' :=
  (kbatch_more B v raws w hR hB hl).mono fun _ _ ⟨v', bs, h1, h2, h3, h4, h5, _, h6⟩ => ⟨v', bs, h1, h2, h3, h4, h5, h6⟩
end Go.Proofs.YtamcclcbmenjdaaGreatDoor

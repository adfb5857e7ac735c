/- 'choirkeep.Level', for any list of steps (100 of them are done): when all are up, nothing is under way, and each has told each other one, all have the same, and compacted logs are the same bytes. The first form's statement and its card: no condition beside the row's own. -/
import Derived.Test.YtamcclcbmenjdaaGreatDoorLevelG1
/- choirkeep's pick and labels. -/
namespace Go.Proofs.YtamcclcbmenjdaaGreatDoor
open Go.RowKit Go.Lib

/-- Which of n things c speaks of. -/
def pk (c : Int) (n : Nat) : Nat := (if c < 0 then -(c + 1) else c).toNat % n
theorem pk_lt (c : Int) (n : Nat) (h : 0 < n) : pk c n < n := Nat.mod_lt _ h

theorem toNat_emod (x : Int) (n : Nat) (h : 0 ≤ x) : ((x.toNat % n : Nat) : Int) = x % n := by
  rw [Int.natCast_emod, Int.toNat_of_nonneg h]
set_option maxHeartbeats 400000 in
theorem pick_any (c : Int) (n : Nat) (w : World) (h1 : -9223372036854775808 ≤ c) (h2 : c ≤ 9223372036854775807) (hn : 0 < n) (hn2 : n ≤ 9223372036854775807) :
    Calls Tryz.prog 22 #[.int .i64 c, .int .i64 n] w fun e w' => e = .returned (.int .i64 (pk c n : Nat)) ∧ w' = w := by
  have hnz : ¬ (n : Int) = 0 := by omega
  by_cases hc : c < 0
  · have e : ((pk c n : Nat) : Int) = -((c + 1).tmod n) := by
      unfold pk; rw [if_pos hc, toNat_emod _ _ (by omega), ← Int.neg_tmod, Int.tmod_eq_emod_of_nonneg (by omega)]
    have HE := hide e
    have hw1 : IntKind.i64.wrap (c + 1) = c + 1 := by rw [IntKind.wrap_i64]; omega
    have hw2 : IntKind.i64.wrap (-(c + 1)) = -(c + 1) := by rw [IntKind.wrap_i64]; omega
    clear e
    go_enter Tryz.func22, Tryz.ntmps22
    go_wp2
    go_ret
    exact ⟨ret_int (by rw [HE.out]), rfl⟩
  · have e : ((pk c n : Nat) : Int) = c % n := by
      unfold pk; rw [if_neg hc, toNat_emod _ _ (by omega)]
    have HE := hide e
    clear e
    go_enter Tryz.func22, Tryz.ntmps22
    go_wp2
    go_ret
    exact ⟨ret_int (by rw [HE.out]), rfl⟩

def tx (l : List UInt8) : ByteArray := ⟨l.toArray⟩
/-- The labels of series number i. -/
def labsOf : Nat → List Lab
  | 0 => []
  | 1 => [(tx [104, 111, 115, 116], tx [97])]
  | 2 => [(tx [104, 111, 115, 116], tx [97]), (tx [111, 102], tx [108, 111, 97, 100])]
  | _ => [(tx [111, 102], tx [108, 111, 97, 100])]

def kCells : Array Value := #[.string ⟨#[104, 111, 115, 116]⟩, .string ⟨#[97]⟩, .string ⟨#[111, 102]⟩, .string ⟨#[108, 111, 97, 100]⟩]
def kRows (g : Nat) : Array Value := #[.slice none 0 0, .slice (some ⟨g, 0, none⟩) 1 2, .slice (some ⟨g, 0, none⟩) 2 2, .slice (some ⟨g, 2, none⟩) 1 1]
/-- The world behind it. -/
def kW (w : World) : World := ((w.alloc (.cells kCells 80)).alloc (.cells (kRows w.heap.size) 36)).drew
theorem kW_facts (w : World) : (∀ j, (kW w).cell? ⟨w.heap.size, j, none⟩ = kCells[j]?) ∧ Below w.heap.size w (kW w) ∧ w.heap.size < (kW w).heap.size := by
  refine ⟨fun j => ?_, (((Below.refl _ _).alloc (Nat.le_refl _) _).alloc (by simp) _).drew, ?_⟩
  · exact (World.cell?_of_block (a := ⟨w.heap.size, j, none⟩) (heap_alloc_old (w.alloc (.cells kCells 80)) _ (by simp))).trans (World.cell?_alloc_new _ _ _ j)
  · show w.heap.size < ((w.alloc (.cells kCells 80)).alloc (.cells (kRows w.heap.size) 36)).heap.size
    simp; omega
theorem klab_at (w : World) (o n c : Nat) (l : List Lab) (hl : l.length = n) (hc : n ≤ c) (h : ∀ i x, l[i]? = some x → kCells[o + i * 2]? = some (.string x.1) ∧ kCells[o + i * 2 + 1]? = some (.string x.2)) :
    LabelsAt (kW w) (kW w).heap.size (.slice (some ⟨w.heap.size, o, none⟩) n c) l := by
  obtain ⟨h1, _, h3⟩ := kW_facts w
  exact ⟨_, c, by rw [hl], by omega, .inr ⟨w.heap.size, o, rfl, h3, fun i x hx => ⟨(h1 _).trans (h i x hx).1, (h1 _).trans (h i x hx).2⟩⟩⟩

set_option maxRecDepth 100000 in
set_option maxHeartbeats 400000 in
theorem klabels_any (i : Nat) (w : World) (hi : i < 4) :
    Calls Tryz.prog 51 #[.int .i64 i] w fun e w' => ∃ v, e = .returned v ∧ LabelsAt w' w'.heap.size v (labsOf i) ∧ (∀ k, v.ownBlock = some k → w.heap.size ≤ k ∧ k < w'.heap.size) ∧ Below w.heap.size w w' := by
  have e : i = 0 ∨ i = 1 ∨ i = 2 ∨ i = 3 := by omega
  rcases e with rfl | rfl | rfl | rfl
  · go_enter Tryz.func51, Tryz.ntmps51
    go_wp2
    go_region
    go_wp2
    go_ret
    exact ⟨.slice none 0 0, rfl, ⟨none, 0, rfl, Nat.le_refl _, .inl rfl⟩, (fun k h => by cases h), (kW_facts w).2.1⟩
  · go_enter Tryz.func51, Tryz.ntmps51
    go_wp2
    go_region
    go_wp2
    go_ret
    exact ⟨.slice (some ⟨w.heap.size, 0, none⟩) 1 2, rfl, klab_at w 0 1 2 (labsOf 1) rfl (by omega) (fun i x hx => by
      match i, hx with
      | 0, hx => cases hx; exact ⟨rfl, rfl⟩), fun k h => by cases h; exact ⟨Nat.le_refl _, (kW_facts w).2.2⟩, (kW_facts w).2.1⟩
  · go_enter Tryz.func51, Tryz.ntmps51
    go_wp2
    go_region
    go_wp2
    go_ret
    exact ⟨.slice (some ⟨w.heap.size, 0, none⟩) 2 2, rfl, klab_at w 0 2 2 (labsOf 2) rfl (by omega) (fun i x hx => by
      match i, hx with
      | 0, hx => cases hx; exact ⟨rfl, rfl⟩
      | 1, hx => cases hx; exact ⟨rfl, rfl⟩), fun k h => by cases h; exact ⟨Nat.le_refl _, (kW_facts w).2.2⟩, (kW_facts w).2.1⟩
  · go_enter Tryz.func51, Tryz.ntmps51
    go_wp2
    go_region
    go_wp2
    go_ret
    exact ⟨.slice (some ⟨w.heap.size, 2, none⟩) 1 1, rfl, klab_at w 2 1 1 (labsOf 3) rfl (by omega) (fun i x hx => by
      match i, hx with
      | 0, hx => cases hx; exact ⟨rfl, rfl⟩), fun k h => by cases h; exact ⟨Nat.le_refl _, (kW_facts w).2.2⟩, (kW_facts w).2.1⟩
end Go.Proofs.YtamcclcbmenjdaaGreatDoor

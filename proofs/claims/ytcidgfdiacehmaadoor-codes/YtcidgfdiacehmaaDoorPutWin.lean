/- putWindow. -/
import Derived.Test.YtcidgfdiacehmaaDoorPacker
namespace Go.Proofs.YtcidgfdiacehmaaDoor
open Go.RowKit

/-- A cell of a block that is neither the writer's nor its row's. -/
theorem Wrote.cell_other {w w' : World} {pb po k : Nat} {own : Option Nat} (h : Wrote w w' pb po own) (hk : k < w.heap.size) (hp : k ≠ pb) (ho : some k ≠ own) (o : Nat) : w'.cell? ⟨k, o, none⟩ = w.cell? ⟨k, o, none⟩ :=
  World.cell?_of_block (a := ⟨k, o, none⟩) (h.block k hk hp ho)

theorem put_int (pb po : Nat) (X W : Int) (n width : Nat) (v : Value) (w : World) (bits : List Bool) (hX : X = n) (hW : W = width) (hn : n < 18446744073709551616) (hwd : width ≤ 64) (hnb : bits.length ≤ 1000000000) (H : BW w pb po v bits) :
    Calls Tryd.prog 78 #[.pointer (some ⟨pb, po, none⟩), .int .u64 X, .int .i64 W] w fun e w' => e = .returned (.tuple #[]) ∧
      ∃ v', BW w' pb po v' (bits ++ Pl.bitsOf n width) ∧ Wrote w w' pb po v.ownBlock ∧ Heir w v v' := by
  subst hX; subst hW; exact put_any pb po n width v w bits hn hwd hnb H
theorem wrap_u64_nat (a : Nat) (h : a ≤ 18446744073709551615) : IntKind.u64.wrap (a : Int) = a := by rw [IntKind.wrap_u64]; omega

theorem wrap_less (z : Nat) (h1 : 1 ≤ z) (h : z ≤ 64) : IntKind.u64.wrap (IntKind.i64.wrap ((z : Int) - 1)) = ((z - 1 : Nat) : Int) := by
  rw [IntKind.wrap_i64, IntKind.wrap_u64]; omega
theorem heir_ne {w : World} {v v' : Value} {k : Nat} (h : Heir w v v') (hv : some k ≠ v.ownBlock) (hk : k < w.heap.size) : some k ≠ v'.ownBlock := by
  rcases h with h | ⟨b, h, hb⟩
  · rw [h]; exact hv
  · rw [h]; intro e; have := Option.some.inj e; omega

def winBits (a z : Nat) : List Bool := Pl.bitsOf a 5 ++ Pl.bitsOf (z - 1) 6

set_option maxRecDepth 100000 in
set_option maxHeartbeats 400000 in
theorem putWindow_any (pb t s b a0 z0 a z : Nat) (v : Value) (w : World) (bits : List Bool) (ha : a ≤ 64) (hz : z ≤ 64) (hz1 : 1 ≤ z) (hnb : bits.length ≤ 60000) (H : PK w pb v bits t s b a0 z0) :
    Calls Tryd.prog 103 #[.pointer (some ⟨pb, 0, none⟩), .agg #[.int .i64 a, .int .i64 z]] w fun e w' => e = .returned (.tuple #[]) ∧
      ∃ v', PK w' pb v' (bits ++ winBits a z) t s b a z ∧ Moved pb w v w' v' := by
  have hpb := H.bw.lt
  have hown : ∀ k, v.ownBlock = some k → k < w.heap.size := fun k e => (World.ownsRow.lt H.bw.bytes k e).2
  have H1 := H.kept (w' := w.alloc (.cells #[.int .i64 a, .int .i64 z] 120)) fun k hk => heap_alloc_old w _ hk
  have C := hide (put_int pb 0 (IntKind.u64.wrap a) 5 a 5 v (w.alloc (.cells #[.int .i64 a, .int .i64 z] 120)).drew bits (wrap_u64_nat a (by omega)) rfl (by omega) (by omega) (by omega) H1.drew.bw)
  have HP := hide H1
  have HB : Hid (Moved pb w v (w.alloc (.cells #[.int .i64 a, .int .i64 z] 120)).drew v) := (Moved.of_below v ((Below.refl w.heap.size w).alloc (Nat.le_refl _) _)).drew
  have HO := hide hown
  have hle : (bits ++ Pl.bitsOf a 5).length ≤ 1000000000 := by rw [List.length_append, Pl.bitsOf_length]; omega
  clear H H1 hown
  go_enter Tryd.func103, Tryd.ntmps103
  go_wp2
  as_aux_lemma =>
    go_region_held3 (fun w' => w'.cell? ⟨w.heap.size, 0, none⟩ = some (.int .i64 a) ∧ w'.cell? ⟨w.heap.size, 1, none⟩ = some (.int .i64 z)) (go_keep) (first | (go_at_call 78; refine C.out.mono ?_; rintro r w3 ⟨rfl, v3, hb3, hw3, hh3⟩; have q1 := hw3.cell_other (k := w.heap.size) (by simp) (by omega) (fun e => absurd (HO.out _ e.symm) (Nat.lt_irrefl _)) 0; have q2 := hw3.cell_other (k := w.heap.size) (by simp) (by omega) (fun e => absurd (HO.out _ e.symm) (Nat.lt_irrefl _)) 1; simp at q1 q2))
    obtain ⟨P3, B3⟩ := HP.out.drew.wrote hb3 hw3 hh3
    have hsz : w.heap.size < w3.heap.size := by have := hw3.size; simp at this; omega
    have ho3 : some w.heap.size ≠ v3.ownBlock := heir_ne hh3 (fun e => absurd (HO.out _ e.symm) (Nat.lt_irrefl _)) (by simp)
    have C2 := hide (put_int pb 0 (IntKind.u64.wrap (IntKind.i64.wrap ((z : Int) - 1))) 6 (z - 1) 6 v3 w3.drew (bits ++ Pl.bitsOf a 5) (wrap_less z hz1 hz) rfl (by omega) (by omega) hle P3.drew.bw)
    have HP3 := hide P3
    have HB3 := hide (HB.out.trans B3)
    have HO3 := hide ho3
    clear hb3 hw3 hh3 P3 B3 ho3 HP HB HO C
    go_wp2
    as_aux_lemma =>
      go_region_held3 (fun w' => w'.cell? ⟨w.heap.size, 0, none⟩ = some (.int .i64 a) ∧ w'.cell? ⟨w.heap.size, 1, none⟩ = some (.int .i64 z)) (go_keep) (first | (go_at_call 78; refine C2.out.mono ?_; rintro r w4 ⟨rfl, v4, hb4, hw4, hh4⟩; have k1 := (hw4.cell_other (k := w.heap.size) (by simpa using hsz) (by omega) HO3.out 0).trans q1; have k2 := (hw4.cell_other (k := w.heap.size) (by simpa using hsz) (by omega) HO3.out 1).trans q2))
      obtain ⟨P4, B4⟩ := HP3.out.drew.wrote hb4 hw4 hh4
      have HF := hide (P4.setWindow a z)
      have HB4 := hide (HB3.out.drew.trans B4)
      have c5 := P4.c5
      have c6 := P4.c6
      have fr := P4.fr
      clear P4 B4 hb4 hw4 hh4 HP3 HB3 HO3 C2 q1 q2
      go_wp2
      go_end0
      exact ⟨rfl, v4, by rw [winBits, ← List.append_assoc]; exact HF.out.1, HB4.out.trans HF.out.2⟩
end Go.Proofs.YtcidgfdiacehmaaDoor

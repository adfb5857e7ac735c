/- 'choirkeep.Level', for any list of steps (100 of them are done): when all are up, nothing is under way, and each has told each other one, all have the same, and compacted logs are the same bytes. The first form's statement and its card: no condition beside the row's own. -/
import Derived.Test.YtamcclcbmenjdaaGreatDoorLevelG8
import Derived.Deep.RegionHeld3
import Derived.Lib.MinMax
/- The ways of a step: stepWay. -/
namespace Go.Proofs.YtamcclcbmenjdaaGreatDoor
open Go.RowKit

def stepWidth : Nat → Nat | 0 => 0 | 1 => 7 | 2 => 9 | 3 => 12 | _ => 64
def stepShift : Nat → Nat | 0 => 0 | 1 => 63 | 2 => 255 | 3 => 2047 | _ => 0
/-- e told in the way v fits its bits -/
def stepFits (e v : Nat) : Bool := decide ((e + stepShift v) % 18446744073709551616 < 2 ^ stepWidth v)
def stepWay (e : Nat) : Nat := if stepFits e 0 then 0 else if stepFits e 1 then 1 else if stepFits e 2 then 2 else if stepFits e 3 then 3 else 4

theorem way0 {e : Nat} (he : e ≤ 18446744073709551615) (h : (e : Int) < 1) : stepWay e = 0 := by
  obtain rfl : e = 0 := by omega
  decide
theorem fits_iff {e v s W : Nat} (hs : stepShift v = s) (hw : 2 ^ stepWidth v = W) : stepFits e v = decide (IntKind.u64.wrap ((e : Int) + s) < W) := by
  unfold stepFits
  rw [hs, hw, IntKind.wrap_u64, decide_eq_decide]
  omega
theorem no0 {e : Nat} (h : 1 ≤ (e : Int)) (he : e ≤ 18446744073709551615) : stepFits e 0 = false := by
  rw [fits_iff (s := 0) (W := 1) rfl rfl, IntKind.wrap_u64]; simp; omega
theorem yes_of {e v s W : Nat} (hs : stepShift v = s) (hw : 2 ^ stepWidth v = W) (h : IntKind.u64.wrap ((e : Int) + s) < W) : stepFits e v = true := by
  rw [fits_iff hs hw]; exact decide_eq_true h
theorem no_of {e v s W : Nat} (hs : stepShift v = s) (hw : 2 ^ stepWidth v = W) (h : W ≤ IntKind.u64.wrap ((e : Int) + s)) : stepFits e v = false := by
  rw [fits_iff hs hw]; exact decide_eq_false (by omega)
theorem way1 {e : Nat} (he : e ≤ 18446744073709551615) (h0 : 1 ≤ (e : Int)) (h : IntKind.u64.wrap ((e : Int) + 63) < 128) : stepWay e = 1 := by
  simp [stepWay, no0 h0 he, yes_of (v := 1) (s := 63) (W := 128) rfl rfl h]
theorem way2 {e : Nat} (he : e ≤ 18446744073709551615) (h0 : 1 ≤ (e : Int)) (h1 : 128 ≤ IntKind.u64.wrap ((e : Int) + 63)) (h : IntKind.u64.wrap ((e : Int) + 255) < 512) : stepWay e = 2 := by
  simp [stepWay, no0 h0 he, no_of (v := 1) (s := 63) (W := 128) rfl rfl h1, yes_of (v := 2) (s := 255) (W := 512) rfl rfl h]
theorem way3 {e : Nat} (he : e ≤ 18446744073709551615) (h0 : 1 ≤ (e : Int)) (h1 : 128 ≤ IntKind.u64.wrap ((e : Int) + 63)) (h2 : 512 ≤ IntKind.u64.wrap ((e : Int) + 255)) (h : IntKind.u64.wrap ((e : Int) + 2047) < 4096) : stepWay e = 3 := by
  simp [stepWay, no0 h0 he, no_of (v := 1) (s := 63) (W := 128) rfl rfl h1, no_of (v := 2) (s := 255) (W := 512) rfl rfl h2, yes_of (v := 3) (s := 2047) (W := 4096) rfl rfl h]
theorem way4 {e : Nat} (he : e ≤ 18446744073709551615) (h0 : 1 ≤ (e : Int)) (h1 : 128 ≤ IntKind.u64.wrap ((e : Int) + 63)) (h2 : 512 ≤ IntKind.u64.wrap ((e : Int) + 255)) (h3 : 4096 ≤ IntKind.u64.wrap ((e : Int) + 2047)) : stepWay e = 4 := by
  simp [stepWay, no0 h0 he, no_of (v := 1) (s := 63) (W := 128) rfl rfl h1, no_of (v := 2) (s := 255) (W := 512) rfl rfl h2, no_of (v := 3) (s := 2047) (W := 4096) rfl rfl h3]

set_option maxRecDepth 100000 in
set_option maxHeartbeats 400000 in
theorem stepWay_any (e : Nat) (w : World) (he : e ≤ 18446744073709551615) (ht : Tabs w) :
    Calls Tryz.prog 187 #[.int .u64 e] w fun r w' => r = .returned (.int .i64 (stepWay e)) ∧ ∃ q, w' = w.drewN q := by
  obtain ⟨s0, s1, s2, s3, s4, s5, s6, s7, s8, s9, _⟩ := ht
  go_enter Tryz.func187, Tryz.ntmps187
  go_wp2
  refine wp_loop_rounds 5 ?_
  rw [rounds_succ]
  go_wp2
  go_quiet (fail)
  go_wp2
  · go_ret
    exact ⟨ret_int (by rw [way0 he (by assumption)]; rfl), _, rfl⟩
  have g0 : 1 ≤ (e : Int) := by assumption
  rw [rounds_succ]
  go_wp2
  go_quiet (fail)
  go_wp2
  · go_ret
    exact ⟨ret_int (by rw [way1 he g0 (by assumption)]; rfl), _, World.drewN_drewN _ _ _⟩
  have g1 : 128 ≤ IntKind.u64.wrap ((e : Int) + 63) := by assumption
  rw [rounds_succ]
  go_wp2
  go_quiet (fail)
  go_wp2
  · go_ret
    exact ⟨ret_int (by rw [way2 he g0 g1 (by assumption)]; rfl), _, World.drewN_drewN _ _ _⟩
  have g2 : 512 ≤ IntKind.u64.wrap ((e : Int) + 255) := by assumption
  rw [rounds_succ]
  go_wp2
  go_quiet (fail)
  go_wp2
  · go_ret
    exact ⟨ret_int (by rw [way3 he g0 g1 g2 (by assumption)]; rfl), _, World.drewN_drewN _ _ _⟩
  have g3 : 4096 ≤ IntKind.u64.wrap ((e : Int) + 2047) := by assumption
  rw [rounds_succ]
  go_wp2
  go_ret
  exact ⟨ret_int (by rw [way4 he g0 g1 g2 g3]; rfl), _, rfl⟩
end Go.Proofs.YtamcclcbmenjdaaGreatDoor

/- The packer: putTime, putWindow, putBits. -/
namespace Go.Proofs.YtamcclcbmenjdaaGreatDoor
open Go.RowKit

/-- A packer in block pb: what it has written, and what the next sample is told against. -/
structure PK (w : World) (pb : Nat) (v : Value) (bits : List Bool) (t s b a z : Nat) : Prop where
  bw : BW w pb 0 v bits
  c2 : w.cell? ⟨pb, 2, none⟩ = some (.int .u64 t)
  c3 : w.cell? ⟨pb, 3, none⟩ = some (.int .u64 s)
  c4 : w.cell? ⟨pb, 4, none⟩ = some (.int .u64 b)
  c5 : w.cell? ⟨pb, 5, none⟩ = some (.int .i64 a)
  c6 : w.cell? ⟨pb, 6, none⟩ = some (.int .i64 z)
  fr : ∀ o, w.frozen? ⟨pb, o, none⟩ = false
  tabs : Tabs w
  hp : 3 ≤ pb

theorem Wrote.below {w w' : World} {pb po : Nat} {v : Value} {xs : List UInt8} (h : Wrote w w' pb po v.ownBlock) (hb : Bytes (pb + 1) w v xs) (hlt : pb < w.heap.size) : Below pb w w' :=
  ⟨h.os, h.tape, h.output, h.size, fun k hk => h.block k (by omega) (by omega) (fun e => own_ne hb (by omega) e.symm)⟩

/-- What a call leaves that writes block pb and the row of v, which is v' now, and makes new blocks. -/
structure Moved (pb : Nat) (w : World) (v : Value) (w' : World) (v' : Value) : Prop where
  os : w'.os = w.os
  tape : w'.tape = w.tape
  output : w'.output = w.output
  size : w.heap.size ≤ w'.heap.size
  block : ∀ k, k < w.heap.size → k ≠ pb → some k ≠ v.ownBlock → w'.heap[k]? = w.heap[k]?
  heir : Heir w v v'
theorem Moved.refl (pb : Nat) (w : World) (v : Value) : Moved pb w v w v := ⟨rfl, rfl, rfl, Nat.le_refl _, fun _ _ _ _ => rfl, Heir.refl _ _⟩
theorem Moved.trans {pb : Nat} {w w1 w2 : World} {v v1 v2 : Value} (h : Moved pb w v w1 v1) (k : Moved pb w1 v1 w2 v2) : Moved pb w v w2 v2 := by
  refine ⟨k.os.trans h.os, k.tape.trans h.tape, k.output.trans h.output, Nat.le_trans h.size k.size, fun i hi hp hne => ?_, h.heir.trans k.heir h.size⟩
  rw [k.block i (Nat.lt_of_lt_of_le hi h.size) hp ?_, h.block i hi hp hne]
  rcases h.heir with hh | ⟨b, hh, hb⟩
  · rw [hh]; exact hne
  · rw [hh]; intro e; have := Option.some.inj e; omega
theorem Moved.of_below {pb : Nat} {w w' : World} (v : Value) (h : Below w.heap.size w w') : Moved pb w v w' v := ⟨h.os, h.tape, h.output, h.size, fun k hk _ _ => h.block k hk, Heir.refl _ _⟩
theorem Moved.drew {pb : Nat} {w w' : World} {v v' : Value} (h : Moved pb w v w' v') : Moved pb w v w'.drew v' := ⟨h.os, h.tape, h.output, h.size, h.block, h.heir⟩
theorem Moved.below {pb : Nat} {w w' : World} {v v' : Value} {xs : List UInt8} (h : Moved pb w v w' v') (hb : Bytes (pb + 1) w v xs) (hlt : pb < w.heap.size) : Below pb w w' :=
  ⟨h.os, h.tape, h.output, h.size, fun k hk => h.block k (by omega) (by omega) (fun e => own_ne hb (by omega) e.symm)⟩
theorem Moved.set (pb o : Nat) (w : World) (v u : Value) : Moved pb w v (w.setCell ⟨pb, o, none⟩ u) v := ⟨rfl, rfl, rfl, by simp, fun k _ hk _ => heap_setCell_other _ _ _ _ hk, Heir.refl _ _⟩
theorem Moved.cell_other {pb k : Nat} {w w' : World} {v v' : Value} (h : Moved pb w v w' v') (hk : k < w.heap.size) (hp : k ≠ pb) (ho : some k ≠ v.ownBlock) (o : Nat) : w'.cell? ⟨k, o, none⟩ = w.cell? ⟨k, o, none⟩ :=
  World.cell?_of_block (a := ⟨k, o, none⟩) (h.block k hk hp ho)

/-- Behind a call of the bit writer's. -/
theorem PK.wrote {w w' : World} {pb : Nat} {v v' : Value} {bits bits' : List Bool} {t s b a z : Nat} (h : PK w pb v bits t s b a z) (hb : BW w' pb 0 v' bits') (hw : Wrote w w' pb 0 v.ownBlock) (hh : Heir w v v') :
    PK w' pb v' bits' t s b a z ∧ Moved pb w v w' v' :=
  ⟨⟨hb, (hw.cells 2 (by omega) (by omega)).trans h.c2, (hw.cells 3 (by omega) (by omega)).trans h.c3, (hw.cells 4 (by omega) (by omega)).trans h.c4, (hw.cells 5 (by omega) (by omega)).trans h.c5, (hw.cells 6 (by omega) (by omega)).trans h.c6,
    fun o => (hw.frozen o).trans (h.fr o), h.tabs.wrote hw h.bw.bytes h.hp, h.hp⟩, ⟨hw.os, hw.tape, hw.output, hw.size, hw.block, hh⟩⟩

theorem Bytes.kept {base : Nat} {w w' : World} {v : Value} {xs : List UInt8} (h : Bytes base w v xs) (hk : ∀ k, v.ownBlock = some k → w'.heap[k]? = w.heap[k]?) : Bytes base w' v xs := by
  refine ⟨h.1, ?_⟩
  rcases h.2 with h2 | ⟨g, cap, cur, hv, hg, hh, r⟩
  · exact .inl h2
  · exact .inr ⟨g, cap, cur, hv, hg, by rw [hk g (by rw [hv]; rfl)]; exact hh, r⟩

/-- Where the blocks that are there hold the same (a draw, a new block). -/
theorem PK.kept {w w' : World} {pb : Nat} {v : Value} {bits : List Bool} {t s b a z : Nat} (h : PK w pb v bits t s b a z) (hk : ∀ k, k < w.heap.size → w'.heap[k]? = w.heap[k]?) : PK w' pb v bits t s b a z := by
  have hl := h.bw.lt
  have hb := hk pb hl
  have e : ∀ o, w'.cell? ⟨pb, o, none⟩ = w.cell? ⟨pb, o, none⟩ := fun o => World.cell?_of_block (a := ⟨pb, o, none⟩) hb
  have f : ∀ o, w'.frozen? ⟨pb, o, none⟩ = w.frozen? ⟨pb, o, none⟩ := fun o => World.frozen?_of_block (a := ⟨pb, o, none⟩) hb
  have hp := h.hp
  exact ⟨⟨(e 0).trans h.bw.c0, (e 1).trans h.bw.c1, (f 0).trans h.bw.f0, (f 1).trans h.bw.f1, h.bw.bytes.kept fun k hv => hk k (World.ownsRow.lt h.bw.bytes k hv).2⟩,
    (e 2).trans h.c2, (e 3).trans h.c3, (e 4).trans h.c4, (e 5).trans h.c5, (e 6).trans h.c6, fun o => (f o).trans (h.fr o), h.tabs.kept (hk _ (by omega)) (hk _ (by omega)), hp⟩
theorem PK.drewN {w : World} {pb : Nat} {v : Value} {bits : List Bool} {t s b a z : Nat} (h : PK w pb v bits t s b a z) (q : Nat) : PK (w.drewN q) pb v bits t s b a z := h.kept fun _ _ => rfl
theorem PK.drew {w : World} {pb : Nat} {v : Value} {bits : List Bool} {t s b a z : Nat} (h : PK w pb v bits t s b a z) : PK w.drew pb v bits t s b a z := h.kept fun _ _ => rfl
theorem PK.below {w w' : World} {pb : Nat} {v : Value} {bits : List Bool} {t s b a z : Nat} (h : PK w pb v bits t s b a z) (hb : Below w.heap.size w w') : PK w' pb v bits t s b a z := h.kept fun k hk => hb.block k hk

theorem Tabs.width {w : World} (h : Tabs w) {k : Nat} (hk : k ≤ 4) : w.cell? ⟨0, k * 2, none⟩ = some (.int .i64 (stepWidth k)) := by
  have e : k = 0 ∨ k = 1 ∨ k = 2 ∨ k = 3 ∨ k = 4 := by omega
  rcases e with rfl | rfl | rfl | rfl | rfl
  · exact h.s0
  · exact h.s2
  · exact h.s4
  · exact h.s6
  · exact h.s8
theorem Tabs.shift {w : World} (h : Tabs w) {k : Nat} (hk : k ≤ 4) : w.cell? ⟨0, k * 2 + 1, none⟩ = some (.int .u64 (stepShift k)) := by
  have e : k = 0 ∨ k = 1 ∨ k = 2 ∨ k = 3 ∨ k = 4 := by omega
  rcases e with rfl | rfl | rfl | rfl | rfl
  · exact h.s1
  · exact h.s3
  · exact h.s5
  · exact h.s7
  · exact h.s9
/-- A store into one of the cells behind the bit writer. -/
theorem PK.set {w : World} {pb : Nat} {v : Value} {bits : List Bool} {t s b a z : Nat} (h : PK w pb v bits t s b a z) (o : Nat) (ho : 2 ≤ o) (u : Value) :
    BW (w.setCell ⟨pb, o, none⟩ u) pb 0 v bits ∧ (∀ i, i ≠ o → (w.setCell ⟨pb, o, none⟩ u).cell? ⟨pb, i, none⟩ = w.cell? ⟨pb, i, none⟩) ∧ (∀ i, (w.setCell ⟨pb, o, none⟩ u).frozen? ⟨pb, i, none⟩ = false) ∧ Tabs (w.setCell ⟨pb, o, none⟩ u) ∧ Below pb w (w.setCell ⟨pb, o, none⟩ u) := by
  have e : ∀ i, i ≠ o → (w.setCell ⟨pb, o, none⟩ u).cell? ⟨pb, i, none⟩ = w.cell? ⟨pb, i, none⟩ := fun i hi =>
    World.cell?_setCell_other _ _ _ _ (fun x => hi (congrArg Addr.off x).symm)
  have hb : Below pb w (w.setCell ⟨pb, o, none⟩ u) := (Below.refl pb w).setCell (p := ⟨pb, o, none⟩) (Nat.le_refl pb) u
  have hp := h.hp
  refine ⟨⟨(e 0 (by omega)).trans h.bw.c0, (e 1 (by omega)).trans h.bw.c1, by rw [World.frozen?_setCell]; exact h.bw.f0, by rw [World.frozen?_setCell]; exact h.bw.f1, ownsRow_setCell_below h.bw.bytes (Nat.lt_succ_self pb) u⟩,
    e, fun i => by rw [World.frozen?_setCell]; exact h.fr i, h.tabs.below hb hp, hb⟩
theorem PK.setTime {w : World} {pb : Nat} {v : Value} {bits : List Bool} {t s b a z : Nat} (h : PK w pb v bits t s b a z) (t' s' : Nat) :
    PK ((w.setCell ⟨pb, 2, none⟩ (.int .u64 t')).setCell ⟨pb, 3, none⟩ (.int .u64 s')) pb v bits t' s' b a z ∧ Moved pb w v ((w.setCell ⟨pb, 2, none⟩ (.int .u64 t')).setCell ⟨pb, 3, none⟩ (.int .u64 s')) v := by
  obtain ⟨b1, e1, f1, k1, _⟩ := h.set 2 (by omega) (.int .u64 t')
  have h1 : PK (w.setCell ⟨pb, 2, none⟩ (.int .u64 t')) pb v bits t' s b a z := ⟨b1, World.cell?_setCell_same _ _ _ h.c2, (e1 3 (by omega)).trans h.c3, (e1 4 (by omega)).trans h.c4, (e1 5 (by omega)).trans h.c5, (e1 6 (by omega)).trans h.c6, f1, k1, h.hp⟩
  obtain ⟨b2, e2, f2, k2, _⟩ := h1.set 3 (by omega) (.int .u64 s')
  exact ⟨⟨b2, (e2 2 (by omega)).trans h1.c2, World.cell?_setCell_same _ _ _ h1.c3, (e2 4 (by omega)).trans h1.c4, (e2 5 (by omega)).trans h1.c5, (e2 6 (by omega)).trans h1.c6, f2, k2, h.hp⟩, (Moved.set pb _ w v _).trans (Moved.set pb _ _ v _)⟩
theorem PK.setBits {w : World} {pb : Nat} {v : Value} {bits : List Bool} {t s b a z : Nat} (h : PK w pb v bits t s b a z) (b' : Nat) :
    PK (w.setCell ⟨pb, 4, none⟩ (.int .u64 b')) pb v bits t s b' a z ∧ Moved pb w v (w.setCell ⟨pb, 4, none⟩ (.int .u64 b')) v := by
  obtain ⟨b1, e1, f1, k1, _⟩ := h.set 4 (by omega) (.int .u64 b')
  exact ⟨⟨b1, (e1 2 (by omega)).trans h.c2, (e1 3 (by omega)).trans h.c3, World.cell?_setCell_same _ _ _ h.c4, (e1 5 (by omega)).trans h.c5, (e1 6 (by omega)).trans h.c6, f1, k1, h.hp⟩, Moved.set pb _ w v _⟩
theorem PK.setWindow {w : World} {pb : Nat} {v : Value} {bits : List Bool} {t s b a z : Nat} (h : PK w pb v bits t s b a z) (a' z' : Nat) :
    PK ((w.setCell ⟨pb, 5, none⟩ (.int .i64 a')).setCell ⟨pb, 6, none⟩ (.int .i64 z')) pb v bits t s b a' z' ∧ Moved pb w v ((w.setCell ⟨pb, 5, none⟩ (.int .i64 a')).setCell ⟨pb, 6, none⟩ (.int .i64 z')) v := by
  obtain ⟨b1, e1, f1, k1, _⟩ := h.set 5 (by omega) (.int .i64 a')
  have h1 : PK (w.setCell ⟨pb, 5, none⟩ (.int .i64 a')) pb v bits t s b a' z := ⟨b1, (e1 2 (by omega)).trans h.c2, (e1 3 (by omega)).trans h.c3, (e1 4 (by omega)).trans h.c4, World.cell?_setCell_same _ _ _ h.c5, (e1 6 (by omega)).trans h.c6, f1, k1, h.hp⟩
  obtain ⟨b2, e2, f2, k2, _⟩ := h1.set 6 (by omega) (.int .i64 z')
  exact ⟨⟨b2, (e2 2 (by omega)).trans h1.c2, (e2 3 (by omega)).trans h1.c3, (e2 4 (by omega)).trans h1.c4, (e2 5 (by omega)).trans h1.c5, World.cell?_setCell_same _ _ _ h1.c6, f2, k2, h.hp⟩, (Moved.set pb _ w v _).trans (Moved.set pb _ _ v _)⟩

/-- a less b, of 64 bits, wrapping round -/
def sub64 (a b : Nat) : Nat := (a + 18446744073709551616 - b) % 18446744073709551616
def add64 (a b : Nat) : Nat := (a + b) % 18446744073709551616
theorem sub64_le (a b : Nat) : sub64 a b ≤ 18446744073709551615 := by unfold sub64; omega
theorem add64_le (a b : Nat) : add64 a b ≤ 18446744073709551615 := by unfold add64; omega
theorem wrap_sub64 (a b : Nat) (hb : b ≤ 18446744073709551615) : IntKind.u64.wrap ((a : Int) - b) = (sub64 a b : Int) := by rw [IntKind.wrap_u64, sub64]; omega
theorem wrap_add64 (a b : Nat) : IntKind.u64.wrap ((a : Int) + b) = (add64 a b : Int) := by rw [IntKind.wrap_u64, add64]; omega

theorem stepWay_le (e : Nat) : stepWay e ≤ 4 := by unfold stepWay; repeat' split
                                                   all_goals omega
theorem stepWidth_le (k : Nat) : stepWidth k ≤ 64 := by unfold stepWidth; split <;> omega
theorem markOf_app (bits : List Bool) (k l : Nat) : (bits ++ markOf k l).length ≤ bits.length + (k + 1) := by
  rw [List.length_append, markOf, List.length_append, List.length_replicate]
  split <;> simp
/-- How a time is told. -/
def timeBits (t s time : Nat) : List Bool :=
  markOf (stepWay (sub64 (sub64 time t) s)) 4 ++ Pl.bitsOf (add64 (sub64 (sub64 time t) s) (stepShift (stepWay (sub64 (sub64 time t) s)))) (stepWidth (stepWay (sub64 (sub64 time t) s)))

set_option maxRecDepth 100000 in
set_option maxHeartbeats 400000 in
theorem putTime_any (pb t s b a z time : Nat) (v : Value) (w : World) (bits : List Bool) (ht : t ≤ 18446744073709551615) (hs : s ≤ 18446744073709551615) (hnb : bits.length ≤ 50000) (H : PK w pb v bits t s b a z) :
    Calls Tryz.prog 157 #[.pointer (some ⟨pb, 0, none⟩), .int .u64 time] w fun e w' => e = .returned (.tuple #[]) ∧
      ∃ v', PK w' pb v' (bits ++ timeBits t s time) time (sub64 time t) b a z ∧ Moved pb w v w' v' := by
  have hst := wrap_sub64 time t ht
  have hle := sub64_le time t
  have hst2 := wrap_sub64 (sub64 time t) s hs
  have hle2 := sub64_le (sub64 time t) s
  have c2 := H.c2
  have c3 := H.c3
  have HT : Hid (timeBits t s time = markOf (stepWay (sub64 (sub64 time t) s)) 4 ++ Pl.bitsOf (add64 (sub64 (sub64 time t) s) (stepShift (stepWay (sub64 (sub64 time t) s)))) (stepWidth (stepWay (sub64 (sub64 time t) s)))) := rfl
  generalize sub64 (sub64 time t) s = e at *
  generalize sub64 time t = d at *
  have HP := hide H
  clear H
  go_enter Tryz.func157, Tryz.ntmps157
  go_wp2_with fail
  refine (stepWay_any e _ hle2 HP.out.tabs).mono ?_
  rintro r w1 ⟨rfl, q, rfl⟩
  have hv4 := stepWay_le e
  generalize stepWay e = k at *
  go_wp2_with fail
  refine (putMark_any pb 0 k 4 v _ bits hv4 (by omega) (by omega) (HP.out.drewN q).bw).mono ?_
  rintro r w2 ⟨rfl, v2, hb2, hw2, hh2⟩
  have P2 := (HP.out.drewN q).wrote hb2 hw2 hh2
  have hlen := markOf_app bits k 4
  obtain ⟨P2, B2⟩ := P2
  have HB2 : Hid (Moved pb w v w2 v2) := (Moved.of_below v (below_drewN (Below.refl w.heap.size w) q)).trans B2
  have HP2 := hide P2
  clear hb2 hw2 hh2 P2 B2 HP c2 c3
  have hk4 : (k : Int) < 5 := by clear hst hst2 hle hle2 ht hs; omega
  have hwds := stepWidth_le k
  have hsh := wrap_add64 e (stepShift k)
  have htw := HP2.out.tabs.width hv4
  have hts := HP2.out.tabs.shift hv4
  have hlen2 := add64_le e (stepShift k)
  generalize add64 e (stepShift k) = x at *
  have hx64 : x < 18446744073709551616 := Nat.lt_succ_of_le hlen2
  have hlen9 : (bits ++ markOf k 4).length ≤ 1000000000 := Nat.le_trans hlen (by clear hlen hst hst2 hsh hlen2 hle hle2 hx64 ht hs; omega)
  go_wp2_with fail
  have C : Hid (Calls Tryz.prog 156 #[.pointer (some ⟨pb, 0, none⟩), .int .u64 (IntKind.u64.wrap ((e : Int) + (stepShift k : Nat))), .int .i64 (stepWidth k : Nat)] w2.drew fun r w' => r = .returned (.tuple #[]) ∧
      ∃ v', BW w' pb 0 v' ((bits ++ markOf k 4) ++ Pl.bitsOf x (stepWidth k)) ∧ Wrote w2.drew w' pb 0 v2.ownBlock ∧ Heir w2.drew v2 v') := by
    rw [hsh]; exact put_any pb 0 x (stepWidth k) v2 w2.drew (bits ++ markOf k 4) hx64 hwds hlen9 HP2.out.drew.bw
  clear hx64 hlen9 hlen2 hlen hsh hst hst2 hle hle2 ht hs hnb hwds
  as_aux_lemma =>
    go_region_held3 (fun w' => w'.cell? ⟨0, k * 2, none⟩ = some (.int .i64 (stepWidth k : Nat)) ∧ w'.cell? ⟨0, k * 2 + 1, none⟩ = some (.int .u64 (stepShift k : Nat))) (go_keep) (first | (go_at_call 156; refine C.out.mono ?_; rintro r w3 ⟨rfl, v3, hb3, hw3, hh3⟩; have P3 := HP2.out.drew.wrote hb3 hw3 hh3; have q1 := P3.1.tabs.width hv4; have q2 := P3.1.tabs.shift hv4))
    all_goals
      have HF := hide (P3.1.setTime time d)
      have HB3 := hide (HB2.out.drew.trans P3.2)
      have d2 := P3.1.c2
      have d3 := P3.1.c3
      have fr := P3.1.fr
      clear P3 hb3 hw3 hh3
      go_wp2
      go_end0
      exact ⟨rfl, v3, by rw [HT.out, ← List.append_assoc]; exact HF.out.1, HB3.out.trans HF.out.2⟩
end Go.Proofs.YtamcclcbmenjdaaGreatDoor

/- putWindow. -/
namespace Go.Proofs.YtamcclcbmenjdaaGreatDoor
open Go.RowKit

/-- A cell of a block that is neither the writer's nor its row's. -/
theorem Wrote.cell_other {w w' : World} {pb po k : Nat} {own : Option Nat} (h : Wrote w w' pb po own) (hk : k < w.heap.size) (hp : k ≠ pb) (ho : some k ≠ own) (o : Nat) : w'.cell? ⟨k, o, none⟩ = w.cell? ⟨k, o, none⟩ :=
  World.cell?_of_block (a := ⟨k, o, none⟩) (h.block k hk hp ho)

theorem put_int (pb po : Nat) (X W : Int) (n width : Nat) (v : Value) (w : World) (bits : List Bool) (hX : X = n) (hW : W = width) (hn : n < 18446744073709551616) (hwd : width ≤ 64) (hnb : bits.length ≤ 1000000000) (H : BW w pb po v bits) :
    Calls Tryz.prog 156 #[.pointer (some ⟨pb, po, none⟩), .int .u64 X, .int .i64 W] w fun e w' => e = .returned (.tuple #[]) ∧
      ∃ v', BW w' pb po v' (bits ++ Pl.bitsOf n width) ∧ Wrote w w' pb po v.ownBlock ∧ Heir w v v' := by
  subst hX; subst hW; exact put_any pb po n width v w bits hn hwd hnb H
theorem wrap_u64_nat (a : Nat) (h : a ≤ 18446744073709551615) : IntKind.u64.wrap (a : Int) = a := by rw [IntKind.wrap_u64]; omega

theorem wrap_less (z : Nat) (h1 : 1 ≤ z) (h : z ≤ 64) : IntKind.u64.wrap (IntKind.i64.wrap ((z : Int) - 1)) = ((z - 1 : Nat) : Int) := by
  rw [IntKind.wrap_i64, IntKind.wrap_u64]; omega
theorem heir_ne {w : World} {v v' : Value} {k : Nat} (h : Heir w v v') (hv : some k ≠ v.ownBlock) (hk : k < w.heap.size) : some k ≠ v'.ownBlock := by
  rcases h with h | ⟨b, h, hb⟩
  · rw [h]; exact hv
  · rw [h]; intro e; have := Option.some.inj e; omega

def winBits (a z : Nat) : List Bool := Pl.bitsOf a 5 ++ Pl.bitsOf (z - 1) 6

set_option maxRecDepth 100000 in
set_option maxHeartbeats 400000 in
theorem putWindow_any (pb t s b a0 z0 a z : Nat) (v : Value) (w : World) (bits : List Bool) (ha : a ≤ 64) (hz : z ≤ 64) (hz1 : 1 ≤ z) (hnb : bits.length ≤ 60000) (H : PK w pb v bits t s b a0 z0) :
    Calls Tryz.prog 190 #[.pointer (some ⟨pb, 0, none⟩), .agg #[.int .i64 a, .int .i64 z]] w fun e w' => e = .returned (.tuple #[]) ∧
      ∃ v', PK w' pb v' (bits ++ winBits a z) t s b a z ∧ Moved pb w v w' v' := by
  have hpb := H.bw.lt
  have hown : ∀ k, v.ownBlock = some k → k < w.heap.size := fun k e => (World.ownsRow.lt H.bw.bytes k e).2
  have H1 := H.kept (w' := w.alloc (.cells #[.int .i64 a, .int .i64 z] 212)) fun k hk => heap_alloc_old w _ hk
  have C := hide (put_int pb 0 (IntKind.u64.wrap a) 5 a 5 v (w.alloc (.cells #[.int .i64 a, .int .i64 z] 212)).drew bits (wrap_u64_nat a (by omega)) rfl (by omega) (by omega) (by omega) H1.drew.bw)
  have HP := hide H1
  have HB : Hid (Moved pb w v (w.alloc (.cells #[.int .i64 a, .int .i64 z] 212)).drew v) := (Moved.of_below v ((Below.refl w.heap.size w).alloc (Nat.le_refl _) _)).drew
  have HO := hide hown
  have hle : (bits ++ Pl.bitsOf a 5).length ≤ 1000000000 := by rw [List.length_append, Pl.bitsOf_length]; omega
  clear H H1 hown
  go_enter Tryz.func190, Tryz.ntmps190
  go_wp2
  as_aux_lemma =>
    go_region_held3 (fun w' => w'.cell? ⟨w.heap.size, 0, none⟩ = some (.int .i64 a) ∧ w'.cell? ⟨w.heap.size, 1, none⟩ = some (.int .i64 z)) (go_keep) (first | (go_at_call 156; refine C.out.mono ?_; rintro r w3 ⟨rfl, v3, hb3, hw3, hh3⟩; have q1 := hw3.cell_other (k := w.heap.size) (by simp) (by omega) (fun e => absurd (HO.out _ e.symm) (Nat.lt_irrefl _)) 0; have q2 := hw3.cell_other (k := w.heap.size) (by simp) (by omega) (fun e => absurd (HO.out _ e.symm) (Nat.lt_irrefl _)) 1; simp at q1 q2))
    obtain ⟨P3, B3⟩ := HP.out.drew.wrote hb3 hw3 hh3
    have hsz : w.heap.size < w3.heap.size := by have := hw3.size; simp at this; omega
    have ho3 : some w.heap.size ≠ v3.ownBlock := heir_ne hh3 (fun e => absurd (HO.out _ e.symm) (Nat.lt_irrefl _)) (by simp)
    have C2 := hide (put_int pb 0 (IntKind.u64.wrap (IntKind.i64.wrap ((z : Int) - 1))) 6 (z - 1) 6 v3 w3.drew (bits ++ Pl.bitsOf a 5) (wrap_less z hz1 hz) rfl (by omega) (by omega) hle P3.drew.bw)
    have HP3 := hide P3
    have HB3 := hide (HB.out.trans B3)
    have HO3 := hide ho3
    clear hb3 hw3 hh3 P3 B3 ho3 HP HB HO C
    go_wp2
    as_aux_lemma =>
      go_region_held3 (fun w' => w'.cell? ⟨w.heap.size, 0, none⟩ = some (.int .i64 a) ∧ w'.cell? ⟨w.heap.size, 1, none⟩ = some (.int .i64 z)) (go_keep) (first | (go_at_call 156; refine C2.out.mono ?_; rintro r w4 ⟨rfl, v4, hb4, hw4, hh4⟩; have k1 := (hw4.cell_other (k := w.heap.size) (by simpa using hsz) (by omega) HO3.out 0).trans q1; have k2 := (hw4.cell_other (k := w.heap.size) (by simpa using hsz) (by omega) HO3.out 1).trans q2))
      obtain ⟨P4, B4⟩ := HP3.out.drew.wrote hb4 hw4 hh4
      have HF := hide (P4.setWindow a z)
      have HB4 := hide (HB3.out.drew.trans B4)
      have c5 := P4.c5
      have c6 := P4.c6
      have fr := P4.fr
      clear P4 B4 hb4 hw4 hh4 HP3 HB3 HO3 C2 q1 q2
      go_wp2
      go_end0
      exact ⟨rfl, v4, by rw [winBits, ← List.append_assoc]; exact HF.out.1, HB4.out.trans HF.out.2⟩
end Go.Proofs.YtamcclcbmenjdaaGreatDoor

/- newWindow, and what is true of leading and trailing zeros. -/
namespace Go.Proofs.YtamcclcbmenjdaaGreatDoor
open Go.RowKit

theorem bitLenAux_lt (f x : Nat) (h : x < 2 ^ f) : x < 2 ^ Lib.bitLenAux f x := by
  induction f generalizing x with
  | zero => simpa [Lib.bitLenAux] using h
  | succ f ih =>
    unfold Lib.bitLenAux
    split
    · subst_vars; simp
    · have := ih (x / 2) (by rw [Nat.pow_succ] at h; omega)
      rw [Nat.add_comm, Nat.pow_succ]; omega
theorem tz_pow_le (x : Nat) (h0 : x ≠ 0) (h : x < 2 ^ 64) : 2 ^ tz x ≤ x := by
  obtain ⟨m, hm, _⟩ := Lib.ctzFrom_spec 64 x (by omega) h
  have e : tz x = Lib.ctzFrom 64 x := by unfold tz Lib.ctz; rw [if_neg h0]
  rw [e]
  conv => rhs; rw [hm]
  exact Nat.le_mul_of_pos_right _ (by omega)
theorem lz_tz (x : Nat) (h0 : x ≠ 0) (h : x < 2 ^ 64) : lz x + tz x ≤ 63 := by
  have h1 := tz_pow_le x h0 h
  have h2 : x < 2 ^ Lib.bitLen x := bitLenAux_lt 64 x h
  have h3 : tz x < Lib.bitLen x := (Nat.pow_lt_pow_iff_right (by decide)).1 (Nat.lt_of_le_of_lt h1 h2)
  have h4 : Lib.bitLen x ≤ 64 := bitLenAux_le 64 x
  unfold lz; omega

def newAhead (x : Nat) : Nat := min (lz x) 31
def newSize (x : Nat) : Nat := 64 - newAhead x - tz x
theorem new_bounds (x : Nat) (h0 : x ≠ 0) (h : x < 2 ^ 64) : newAhead x ≤ 31 ∧ newAhead x + newSize x + tz x = 64 ∧ 1 ≤ newSize x ∧ newSize x ≤ 64 := by
  have := lz_tz x h0 h
  unfold newSize newAhead; omega

set_option maxRecDepth 100000 in
set_option maxHeartbeats 400000 in
theorem newWindow_any (x : Nat) (w : World) (hx : x ≤ 18446744073709551615) (h0 : x ≠ 0) (ht : Tabs w) :
    Calls Tryz.prog 191 #[.int .u64 x] w fun e w' => e = .returned (.agg #[.int .i64 (newAhead x), .int .i64 (newSize x)]) ∧ Below w.heap.size w w' := by
  have nb := new_bounds x h0 (by omega)
  have hl : lz x ≤ 64 := by unfold lz; omega
  have HT := hide (ht.alloc (.cells #[.int .i64 0, .int .i64 0] 212))
  have em : (min (lz x : Int) 31) = (newAhead x : Int) := by unfold newAhead; omega
  have es : (64 : Int) - (newAhead x : Int) - (tz x : Int) = (newSize x : Int) := by omega
  have b1 := nb.1
  have b2 : tz x ≤ 64 := by omega
  have ES := hide es
  clear nb ht es h0
  go_enter Tryz.func191, Tryz.ntmps191
  go_wp2_with fail
  refine (lz_any x _ hx).mono ?_
  rintro e w' ⟨rfl, rfl⟩
  go_wp2_with fail
  refine (tz_any x _ hx HT.out).mono ?_
  rintro e w' ⟨rfl, rfl⟩
  go_wp2
  exact bodyPost_ret (v := .agg #[.int .i64 (newAhead x), .int .i64 (64 - (newAhead x : Int) - tz x)]) (by simp [results, Tryz.results191, go_sem]) rfl ⟨by rw [ES.out], (Below.refl _ _).alloc (Nat.le_refl _) _⟩
end Go.Proofs.YtamcclcbmenjdaaGreatDoor

/- The unpacker: sample, takeWindow. -/
import Derived.Test.YtcidgfdiacehmaaDoorLabels
namespace Go.Proofs.YtcidgfdiacehmaaDoor
open Go.RowKit Go.Lib

theorem wrap_toI (t : Nat) (h : t ≤ 18446744073709551615) : IntKind.i64.wrap (t : Int) = toI t := by
  rw [IntKind.wrap_i64, toI]; split <;> omega

set_option maxRecDepth 100000 in
set_option maxHeartbeats 400000 in
theorem sample_any (ub : Nat) (s : ByteArray) (u : US) (w : World) (H : UP w ub s u) (ht : u.t ≤ 18446744073709551615) :
    Calls Tryd.prog 83 #[.pointer (some ⟨ub, 0, none⟩)] w fun e w' => e = .returned (.agg #[.int .i64 (toI u.t), .int .u64 u.b]) ∧ Below w.heap.size w w' := by
  have c3 := H.c3
  have c5 := H.c5
  have hub := H.lt
  have hw := wrap_toI u.t ht
  clear H ht
  generalize u.t = t at *
  generalize u.b = b at *
  go_enter Tryd.func83, Tryd.ntmps83
  go_wp2
  go_region
  go_wp2
  exact bodyPost_ret (v := .agg #[.int .i64 (toI t), .int .u64 b]) (by simp [results, Tryd.results83, go_sem]) rfl ⟨rfl, ((Below.refl _ _).alloc (Nat.le_refl _) _).drew⟩

/-- Where the unpacker's block, and those ahead of it, are as they were. -/
theorem UP.low {w w' : World} {ub : Nat} {s : ByteArray} {u : US} (h : UP w ub s u) (hk : ∀ k, k ≤ ub → w'.heap[k]? = w.heap[k]?) : UP w' ub s u := by
  have hb := hk ub (Nat.le_refl _)
  have e : ∀ o, w'.cell? ⟨ub, o, none⟩ = w.cell? ⟨ub, o, none⟩ := fun o => World.cell?_of_block (a := ⟨ub, o, none⟩) hb
  have f : ∀ o, w'.frozen? ⟨ub, o, none⟩ = w.frozen? ⟨ub, o, none⟩ := fun o => World.frozen?_of_block (a := ⟨ub, o, none⟩) hb
  have hp := h.hp
  exact ⟨⟨(e 0).trans h.br.c0, (e 1).trans h.br.c1, (e 2).trans h.br.c2, (f 1).trans h.br.f1, (f 2).trans h.br.f2⟩, (e 3).trans h.c3, (e 4).trans h.c4, (e 5).trans h.c5, (e 6).trans h.c6, (e 7).trans h.c7,
    fun o => (f o).trans (h.fr o), h.tabs.kept (hk _ (by omega)) (hk _ (by omega)), hp⟩
theorem Rd.set_new {w w1 : World} {yb yo g o : Nat} (h : Rd w w1 yb yo) (hg : w.heap.size ≤ g) (x : Value) : Rd w (w1.setCell ⟨g, o, none⟩ x) yb yo :=
  ⟨h.os, h.tape, h.output, by simpa using h.size, fun i hi hy => (heap_setCell_other _ _ _ _ (by show i ≠ g; omega)).trans (h.block i hi hy)⟩
theorem Rd.set_own {w w1 : World} {yb yo o : Nat} (h : Rd w w1 yb yo) (x : Value) : Rd w (w1.setCell ⟨yb, o, none⟩ x) yb yo := h.trans (Rd.set x)

theorem UOk.win {s : ByteArray} {u : US} (h : UOk s u) : UOk s (winU s u) := by
  unfold winU
  simp only
  split
  · rename_i h1
    exact ⟨h.ht, h.hd, h.hb, h1, tk_pos _ _ _ _ (tk_pos _ _ _ _ h.hpos)⟩
  · exact ⟨h.ht, h.hd, h.hb, Nat.zero_le _, tk_pos _ _ _ _ (tk_pos _ _ _ _ h.hpos)⟩

set_option maxRecDepth 100000 in
set_option maxHeartbeats 400000 in
theorem takeWindow_any (ub : Nat) (s : ByteArray) (u : US) (w : World) (H : UP w ub s u) (hu : UOk s u) (hs : s.size ≤ 140737488355328) :
    Calls Tryd.prog 107 #[.pointer (some ⟨ub, 0, none⟩)] w fun e w' => e = .returned (.tuple #[]) ∧ UP w' ub s (winU s u) ∧ Rd w w' ub 0 := by
  have hub := H.lt
  have C1 := hide (take_any ub 0 u.pos u.st 5 s w H.br hs hu.hpos (by omega))
  have hx := tk_lt s u.pos u.st 5
  have hp1 := tk_pos s u.pos u.st 5 hu.hpos
  have HE : Hid (winU s u = if (tk s u.pos u.st 5).1 + ((tk s (tk s u.pos u.st 5).2.1 (tk s u.pos u.st 5).2.2 6).1 + 1) ≤ 64 then { u with pos := (tk s (tk s u.pos u.st 5).2.1 (tk s u.pos u.st 5).2.2 6).2.1, st := (tk s (tk s u.pos u.st 5).2.1 (tk s u.pos u.st 5).2.2 6).2.2, a := (tk s u.pos u.st 5).1, z := (tk s (tk s u.pos u.st 5).2.1 (tk s u.pos u.st 5).2.2 6).1 + 1 }
    else { u with pos := (tk s (tk s u.pos u.st 5).2.1 (tk s u.pos u.st 5).2.2 6).2.1, st := 1, a := 0, z := 0 }) := rfl
  generalize tk s u.pos u.st 5 = t1 at *
  obtain ⟨x, p1, q1⟩ := t1
  simp only at C1 hx hp1 HE
  have hy := tk_lt s p1 q1 6
  have HP := hide H
  clear H
  have hx5 : x < 32 := hx
  have HT2 := hide (fun (w1 : World) (hB : BR w1 ub 0 s p1 q1) => take_any ub 0 p1 q1 6 s w1 hB hs hp1 (by omega))
  generalize tk s p1 q1 6 = t2 at *
  obtain ⟨y, p2, q2⟩ := t2
  simp only at hy HE HT2
  have hy6 : y < 64 := hy
  clear hx hy hu hp1
  go_enter Tryd.func107, Tryd.ntmps107
  go_wp2_with fail
  refine C1.out.mono ?_
  rintro e w1 ⟨rfl, hB1, hR1⟩
  have HP1 := hide (HP.out.read hB1 hR1)
  have HR1 := hide (Rd.of_read hR1)
  have hs1 := hR1.size
  clear hB1 hR1 HP C1
  go_wp2_with fail
  have P2 := HP1.out.alloc (.cells #[.int .i64 x, .int .i64 0] 120)
  refine (HT2.out _ P2.br).mono ?_
  rintro e w2 ⟨rfl, hB2, hR2⟩
  have P3 := P2.read hB2 hR2
  have HR2 := hide ((HR1.out.alloc (.cells #[.int .i64 x, .int .i64 0] 120)).trans (Rd.of_read hR2))
  have hne : w1.heap.size ≠ ub := by omega
  have k0 : w2.cell? ⟨w1.heap.size, 0, none⟩ = some (.int .i64 x) := (World.cell?_of_block (a := ⟨w1.heap.size, 0, none⟩) (hR2.block _ hne)).trans (World.cell?_alloc_new _ _ _ 0)
  have k1 : w2.cell? ⟨w1.heap.size, 1, none⟩ = some (.int .i64 0) := (World.cell?_of_block (a := ⟨w1.heap.size, 1, none⟩) (hR2.block _ hne)).trans (World.cell?_alloc_new _ _ _ 1)
  have f1 : w2.frozen? ⟨w1.heap.size, 1, none⟩ = false := (World.frozen?_of_block (a := ⟨w1.heap.size, 1, none⟩) (hR2.block _ hne)).trans (World.frozen?_alloc_new _ _ _ 1)
  have f0 : w2.frozen? ⟨w1.heap.size, 0, none⟩ = false := (World.frozen?_of_block (a := ⟨w1.heap.size, 0, none⟩) (hR2.block _ hne)).trans (World.frozen?_alloc_new _ _ _ 0)
  have HP3 := hide P3
  have hg : w2.heap.size = w1.heap.size + 1 := by have := hR2.size; simp at this; omega
  have C3 : Hid (∀ W, Calls Tryd.prog 105 #[.agg #[.int .i64 x, .int .i64 ((y : Int) + 1)]] W fun e w' => e = .returned (.int .i64 (64 - (x : Int) - ((y : Int) + 1))) ∧ w' = W.alloc (.cells #[.int .i64 x, .int .i64 ((y : Int) + 1)] 120)) := fun W => by
    have h := behind_any x (y + 1) W (by omega) (by omega)
    have e1 : ((y + 1 : Nat) : Int) = (y : Int) + 1 := by omega
    rw [e1] at h; exact h
  clear P2 P3 hB2 hR2 HP1 HR1 HT2
  go_wp2_with fail
  refine (C3.out _).mono ?_
  rintro e w3 ⟨rfl, hw3⟩
  have P4 : UP w3 ub s { u with pos := p2, st := q2 } := HP3.out.low fun k hk => by
    rw [hw3, heap_alloc_old _ _ (by simp; omega), heap_setCell_other _ _ _ _ (by show k ≠ w1.heap.size; omega)]
  have HR3 : Hid (Rd w w3 ub 0) := by rw [hw3]; exact (HR2.out.set_new (by omega) _).alloc _
  have e3 : ∀ o, w3.cell? ⟨w1.heap.size, o, none⟩ = (w2.setCell ⟨w1.heap.size, 1, none⟩ (.int .i64 ((y : Int) + 1))).cell? ⟨w1.heap.size, o, none⟩ := fun o => by
    rw [hw3]; exact World.cell?_of_block (a := ⟨w1.heap.size, o, none⟩) (heap_alloc_old _ _ (by simp; omega))
  have g3 : ∀ o, w3.frozen? ⟨w1.heap.size, o, none⟩ = w2.frozen? ⟨w1.heap.size, o, none⟩ := fun o => by
    rw [hw3]
    refine (World.frozen?_of_block (a := ⟨w1.heap.size, o, none⟩) (heap_alloc_old _ _ (by simp; omega))).trans ?_
    rw [World.frozen?_setCell]
  have m0 : w3.cell? ⟨w1.heap.size, 0, none⟩ = some (.int .i64 x) := by
    rw [e3, World.cell?_setCell_other _ _ _ _ (fun e => absurd (congrArg Addr.off e) (by simp))]; exact k0
  have m1 : w3.cell? ⟨w1.heap.size, 1, none⟩ = some (.int .i64 ((y : Int) + 1)) := by
    rw [e3]; exact World.cell?_setCell_same _ _ _ k1
  have n0 := (g3 0).trans f0
  have n1 := (g3 1).trans f1
  have c2 := P4.br.c2
  have c6 := P4.c6
  have c7 := P4.c7
  have fr2 := P4.fr 2
  have fr6 := P4.fr 6
  have fr7 := P4.fr 7
  have HP4 := hide P4
  have hws : w.heap.size ≤ w1.heap.size := by omega
  clear P4 hw3 e3 g3 k0 k1 f0 f1 HP3 HR2 C3 hg hs1
  generalize w1.heap.size = g at *
  have hne2 : ¬ ub = g := fun e => hne e.symm
  by_cases hle : x + (y + 1) ≤ 64
  · have hdec : decide ((64 : Int) - x - ((y : Int) + 1) < 0) = false := by simp; omega
    have HE2 := hide (HE.out.trans (if_pos hle))
    clear HE hle
    go_wp2
    go_end0
    have h := (HP4.out.setA x).setZ (y + 1)
    have e1 : ((y + 1 : Nat) : Int) = (y : Int) + 1 := by omega
    rw [e1] at h
    exact ⟨rfl, by rw [HE2.out]; exact h, (HR3.out.set_own _).set_own _⟩
  · have hdec : decide ((64 : Int) - x - ((y : Int) + 1) < 0) = true := by simp; omega
    have HE2 := hide (HE.out.trans (if_neg hle))
    clear HE hle
    go_wp2
    go_end0
    have h := (((HP4.out.setSt 1).low (w' := ((w3.setCell ⟨ub, 2, none⟩ (.int .i64 1)).setCell ⟨g, 0, none⟩ (.int .i64 0)).setCell ⟨g, 1, none⟩ (.int .i64 0)) fun k hk => by
      rw [heap_setCell_other _ _ _ _ (by show k ≠ g; omega), heap_setCell_other _ _ _ _ (by show k ≠ g; omega)]; rfl).setA 0).setZ 0
    exact ⟨rfl, by rw [HE2.out]; exact h, (((((HR3.out.set_own _).set_new hws _).set_new hws _).set_own _).set_own _)⟩
end Go.Proofs.YtcidgfdiacehmaaDoor

/- slices.MaxFunc of samples by their bits. -/
import Derived.Test.YtcidgfdiacehmaaRest8S
namespace Go.Proofs.Ytcidgfdiacehmaa
open Go.RowKit Go.Lib

set_option maxHeartbeats 400000 in
theorem isNaNU_any (x : Nat) (w : World) : Calls Try.prog 73 #[.int .u64 x] w fun e w' => e = .returned (.bool false) ∧ w' = w := by
  go_enter Try.func73, Try.ntmps73
  go_wp2
  go_ret
  exact ⟨by simp, rfl⟩
set_option maxRecDepth 100000 in
set_option maxHeartbeats 400000 in
theorem compareU_any (x y : Nat) (w : World) : Calls Try.prog 69 #[.int .u64 x, .int .u64 y] w fun e w' => e = .returned (.int .i64 (cmpI x y)) ∧ w' = w := by
  have C := hide isNaNU_any
  by_cases h1 : (x : Int) < (y : Int)
  · have HE : Hid (cmpI x y = -1) := if_pos h1
    go_enter Try.func69, Try.ntmps69
    go_wp2_with (go_at_call 73; refine (C.out _ _).mono ?_; rintro e w' ⟨rfl, rfl⟩)
    go_ret
    exact ⟨ret_int HE.out.symm, rfl⟩
  · by_cases h2 : (y : Int) < (x : Int)
    · have HE : Hid (cmpI x y = 1) := by show (if (x : Int) < y then (-1 : Int) else if (y : Int) < x then 1 else 0) = 1; rw [if_neg h1, if_pos h2]
      go_enter Try.func69, Try.ntmps69
      go_wp2_with (go_at_call 73; refine (C.out _ _).mono ?_; rintro e w' ⟨rfl, rfl⟩)
      go_ret
      exact ⟨ret_int HE.out.symm, rfl⟩
    · have HE : Hid (cmpI x y = 0) := by show (if (x : Int) < y then (-1 : Int) else if (y : Int) < x then 1 else 0) = 0; rw [if_neg h1, if_neg h2]
      go_enter Try.func69, Try.ntmps69
      go_wp2_with (go_at_call 73; refine (C.out _ _).mono ?_; rintro e w' ⟨rfl, rfl⟩)
      go_ret
      exact ⟨ret_int HE.out.symm, rfl⟩
set_option maxRecDepth 100000 in
set_option maxHeartbeats 400000 in
theorem compareBits_any (x y : Int × Nat) (w : World) :
    Calls Try.prog 61 #[.agg #[.int .i64 x.1, .int .u64 x.2], .agg #[.int .i64 y.1, .int .u64 y.2]] w fun e w' => e = .returned (.int .i64 (cmpI x.2 y.2)) ∧ Below w.heap.size w w' := by
  have C := hide compareU_any
  go_enter Try.func61, Try.ntmps61
  go_wp2_with (go_at_call 69; refine (C.out _ _ _).mono ?_; rintro e w' ⟨rfl, rfl⟩)
  go_ret
  exact ⟨rfl, ((Below.refl _ _).alloc (Nat.le_refl _) _).alloc (by simp) _⟩

theorem two_set {w : World} {r : Nat} {z0 z1 : Value} {ty : TypeId} (h : w.heap[r]? = some (.cells #[z0, z1] ty)) (u v : Value) : ((w.setCell ⟨r, 0, none⟩ u).setCell ⟨r, 1, none⟩ v).heap[r]? = some (.cells #[u, v] ty) := by
  have h1 : (w.setCell ⟨r, 0, none⟩ u).heap[r]? = some (.cells #[u, z1] ty) := by
    rw [setCell_eq_setRow w r 0 _ ty (0, 0) u h]; exact setRow_heap w r _ _ ty (0, 0) h
  rw [setCell_eq_setRow _ r 1 _ ty (0, 0) v h1]; exact setRow_heap _ r _ _ ty (0, 0) h1
theorem cmpI_pos (x y : Nat) : 0 < cmpI x y ↔ y < x := by
  unfold cmpI
  split
  · omega
  · split <;> omega

set_option maxRecDepth 100000 in
set_option maxHeartbeats 1000000 in
theorem maxBits_any (W : World) (b n cap : Nat) (l : List (Int × Nat)) (hl : l ≠ []) (hn : n = l.length) (hb : b < W.heap.size) (hc : ∀ i x, l[i]? = some x → W.cell? ⟨b, i * 2, none⟩ = some (.int .i64 x.1) ∧ W.cell? ⟨b, i * 2 + 1, none⟩ = some (.int .u64 x.2)) (hlen : l.length ≤ 10000000000000) :
    Calls Try.prog 59 #[.slice (some ⟨b, 0, none⟩) n cap, .func (.func 61) #[] #[]] W fun e w' => ∃ m, e = .returned (.agg #[.int .i64 m.1, .int .u64 m.2]) ∧ m ∈ l ∧ (∀ x ∈ l, x.2 ≤ m.2) ∧ Below W.heap.size W w' := by
  subst hn
  obtain ⟨x0, r, rfl⟩ := List.exists_cons_of_ne_nil hl
  have HC := hide hc
  have C := hide compareBits_any
  have c0 := (hc 0 x0 rfl).1
  have c1 := (hc 0 x0 rfl).2
  simp only [Nat.zero_mul, Nat.zero_add] at c0 c1
  have hlen' : r.length + 1 ≤ 10000000000000 := hlen
  clear hc hl hlen
  go_enter Try.func59, Try.ntmps59
  go_wp2
  go_loopw [6] (fun iv wr => ∃ (i : Nat) (m : Int × Nat), 1 ≤ i ∧ i ≤ r.length + 1 ∧ iv = .int .i64 i ∧ Hid (m ∈ x0 :: r) ∧ Hid (∀ x ∈ (x0 :: r).take i, x.2 ≤ m.2) ∧ Hid (Below W.heap.size W wr) ∧ Hid (wr.heap[W.heap.size]? = some (.cells #[.int .i64 0, .int .u64 0] 33)) ∧ Hid (wr.heap[W.heap.size + 1]? = some (.cells #[.int .i64 m.1, .int .u64 m.2] 33))) (fun iv _ => r.length + 1 - (intOf iv).toNat)
  case atStart => exact ⟨1, x0, Nat.le_refl _, by omega, rfl, List.mem_cons_self .., fun x hx => by simp at hx; subst hx; exact Nat.le_refl _, ((Below.refl _ _).alloc (Nat.le_refl _) _).alloc (by simp) _, (heap_alloc_old _ _ (by simp)).trans (alloc_heap_new _ _), by show _ = _; have := alloc_heap_new (W.alloc (.cells #[.int .i64 0, .int .u64 0] 33)) (.cells #[.int .i64 x0.1, .int .u64 x0.2] 33); simpa using this⟩
  case round =>
    clear c0 c1
    obtain ⟨i, m, h1, hi, rfl, HM, HX, HB, HR, HG⟩ := hrel
    have hrs := HR.out
    have hgs := HG.out
    have hlr := lt_of_heapS hrs
    have hlg := lt_of_heapS hgs
    have d0 : wr.cell? ⟨W.heap.size + 1, 0, none⟩ = some (.int .i64 m.1) := by simp [World.cell?, hgs]
    have d1 : wr.cell? ⟨W.heap.size + 1, 1, none⟩ = some (.int .u64 m.2) := by simp [World.cell?, hgs]
    have r0 : wr.cell? ⟨W.heap.size, 0, none⟩ = some (.int .i64 0) := by simp [World.cell?, hrs]
    have r1 : wr.cell? ⟨W.heap.size, 1, none⟩ = some (.int .u64 0) := by simp [World.cell?, hrs]
    have fr0 : wr.frozen? ⟨W.heap.size, 0, none⟩ = false := by simp [World.frozen?, hrs]
    have fr1 : wr.frozen? ⟨W.heap.size, 1, none⟩ = false := by simp [World.frozen?, hrs]
    by_cases hlt : i < r.length + 1
    · obtain ⟨x, hx⟩ : ∃ x, (x0 :: r)[i]? = some x := ⟨_, List.getElem?_eq_getElem hlt⟩
      have hxm := List.mem_of_getElem? hx
      have ht := take_more (x0 :: r) i x hx
      have c0 := (HB.out.cell (p := ⟨b, i * 2, none⟩) hb).trans (HC.out i x hx).1
      have c1 := (HB.out.cell (p := ⟨b, i * 2 + 1, none⟩) hb).trans (HC.out i x hx).2
      have i1 : (i : Int) < (r.length : Int) + 1 := by omega
      have hbr : b < wr.heap.size := by omega
      have hne : ¬ b = W.heap.size + 1 := by omega
      have HXm := hide hxm
      have HT := hide ht
      clear hx hxm ht hrs hgs r0 r1 fr0 fr1
      go_wp2
      as_aux_lemma =>
        go_region_held3 (fun w' => w'.cell? ⟨b, i * 2, none⟩ = some (.int .i64 x.1) ∧ w'.cell? ⟨b, i * 2 + 1, none⟩ = some (.int .u64 x.2) ∧ w'.cell? ⟨W.heap.size + 1, 0, none⟩ = some (.int .i64 m.1) ∧ w'.cell? ⟨W.heap.size + 1, 1, none⟩ = some (.int .u64 m.2)) (go_keep) (first | (go_at_call 61; refine (C.out x m _).mono ?_; rintro e w2 ⟨rfl, hb3⟩; have y0 := (hb3.cell (p := ⟨b, i * 2, none⟩) hbr).trans c0; have y1 := (hb3.cell (p := ⟨b, i * 2 + 1, none⟩) hbr).trans c1; have y2 := (hb3.cell (p := ⟨W.heap.size + 1, 0, none⟩) hlg).trans d0; have y3 := (hb3.cell (p := ⟨W.heap.size + 1, 1, none⟩) hlg).trans d1))
        all_goals
          have hb4 : Below wr.heap.size wr w2 := (Below.refl wr.heap.size wr).drew.trans hb3
          have HB2 : Hid (Below W.heap.size W w2) := HB.out.trans (hb4.mono HB.out.size)
          have HR2 : Hid (w2.heap[W.heap.size]? = some (.cells #[.int .i64 0, .int .u64 0] 33)) := (hb4.block _ hlr).trans HR.out
          have HG2 : Hid (w2.heap[W.heap.size + 1]? = some (.cells #[.int .i64 m.1, .int .u64 m.2] 33)) := (hb4.block _ hlg).trans HG.out
          clear hb3 hb4 c0 c1 d0 d1
          by_cases hc : 0 < cmpI x.2 m.2
          · have hcd : decide (0 < cmpI x.2 m.2) = true := decide_eq_true hc
            have f0 : w2.frozen? ⟨W.heap.size + 1, 0, none⟩ = false := by simp [World.frozen?, HG2.out]
            have f1 : w2.frozen? ⟨W.heap.size + 1, 1, none⟩ = false := by simp [World.frozen?, HG2.out]
            have HS := hide (two_set HG2.out (.int .i64 x.1) (.int .u64 x.2))
            have HX2 : Hid (∀ z ∈ (x0 :: r).take (i + 1), z.2 ≤ x.2) := fun z hz => by
              rw [HT.out] at hz
              have := (cmpI_pos x.2 m.2).1 hc
              rcases List.mem_append.1 hz with hz | hz
              · have := HX.out z hz; omega
              · simp at hz; subst hz; exact Nat.le_refl _
            have HR3 : Hid (((w2.setCell ⟨W.heap.size + 1, 0, none⟩ (.int .i64 x.1)).setCell ⟨W.heap.size + 1, 1, none⟩ (.int .u64 x.2)).heap[W.heap.size]? = some (.cells #[.int .i64 0, .int .u64 0] 33)) := (Below.heap_setCell _ _ _ _ (by simp)).trans ((Below.heap_setCell _ _ _ _ (by simp)).trans HR2.out)
            have HB3 : Hid (Below W.heap.size W ((w2.setCell ⟨W.heap.size + 1, 0, none⟩ (.int .i64 x.1)).setCell ⟨W.heap.size + 1, 1, none⟩ (.int .u64 x.2))) := (HB2.out.setCell (p := ⟨W.heap.size + 1, 0, none⟩) (by simp) _).setCell (p := ⟨W.heap.size + 1, 1, none⟩) (by simp) _
            clear HB2 HR2 HG2 HX HB HR HG HT
            go_wp2
            go_roundw
            case rel => exact ⟨i + 1, x, by omega, by omega, by go_num, HXm.out, HX2.out, HB3.out, HR3.out, HS.out⟩
            case measure => simp [intOf]; omega
          · have hcd : decide (0 < cmpI x.2 m.2) = false := decide_eq_false hc
            have HX2 : Hid (∀ z ∈ (x0 :: r).take (i + 1), z.2 ≤ m.2) := fun z hz => by
              rw [HT.out] at hz
              have := fun e => hc ((cmpI_pos x.2 m.2).2 e)
              rcases List.mem_append.1 hz with hz | hz
              · exact HX.out z hz
              · simp at hz; subst hz; exact Nat.le_of_not_lt this
            clear HX HB HR HG HT
            go_wp2
            go_roundw
            case rel => exact ⟨i + 1, m, by omega, by omega, by go_num, HM.out, HX2.out, HB2.out, HR2.out, HG2.out⟩
            case measure => simp [intOf]; omega
    · have i1 : ¬ (i : Int) < (r.length : Int) + 1 := by omega
      have HA : Hid (∀ x ∈ x0 :: r, x.2 ≤ m.2) := fun x hx => HX.out x (by
        have e : i = (x0 :: r).length := by show i = r.length + 1; omega
        rw [e, List.take_length]; exact hx)
      have HB3 : Hid (Below W.heap.size W ((wr.setCell ⟨W.heap.size, 0, none⟩ (.int .i64 m.1)).setCell ⟨W.heap.size, 1, none⟩ (.int .u64 m.2))) := (HB.out.setCell (p := ⟨W.heap.size, 0, none⟩) (Nat.le_refl _) _).setCell (p := ⟨W.heap.size, 1, none⟩) (Nat.le_refl _) _
      clear HB HR HG HX hrs hgs
      go_wp2
      (try simp only [Exit.inBlock, Exit.then])
      refine bodyPost_ret (v := .agg #[.int .i64 m.1, .int .u64 m.2]) (by rw [results_cell1S rfl]; go_simp) rfl ?_
      first | exact ⟨m, rfl, HM.out, HA.out, HB3.out⟩ | exact ⟨m.1, m.2, rfl, List.mem_cons.1 HM.out, ⟨HA.out _ (List.mem_cons_self ..), fun a b h => HA.out (a, b) (List.mem_cons_of_mem _ h)⟩, HB3.out⟩
end Go.Proofs.Ytcidgfdiacehmaa

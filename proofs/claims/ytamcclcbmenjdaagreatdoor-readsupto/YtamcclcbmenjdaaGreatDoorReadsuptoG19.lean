/- 'choirlaw.Reads', for any list of texts of bulk at most 1048576: Decode answers the document's batch or error, one behind the other; lists that came out are their owner's own. The second form's statement and its card: its only condition is the row's own bound on the argument's bulk. -/
import Derived.Test.YtamcclcbmenjdaaGreatDoorReadsuptoG18
/- The reference: samples. -/
namespace Go.Proofs.YtamcclcbmenjdaaGreatDoor
open Go.RowKit Go.Lib

theorem bits_eq (w : World) (rb : Nat) (S : ByteArray) {pos st n x p q : Nat} (h : Rw w rb S pos st) (hp : pos ≤ 8 * S.size) (hS : S.size ≤ 140737488355328) (hn : n ≤ 64) (he : bR S pos st n = (x, p, q)) :
    Calls Tryz.prog 142 #[.pointer (some ⟨rb, 0, none⟩), .int .i64 n] w fun e w' => e = .returned (.int .u64 x) ∧ Rw w' rb S p q ∧ Only w w' rb := by
  have := bits_any w rb S pos st n h hp hS hn
  rw [he] at this
  exact this
theorem diff_eq (w : World) (rb : Nat) (S : ByteArray) {pos st x p q : Nat} (h : Rw w rb S pos st) (hp : pos ≤ 8 * S.size) (hS : S.size ≤ 140737488355328) (he : dR S pos st = (x, p, q)) :
    Calls Tryz.prog 143 #[.pointer (some ⟨rb, 0, none⟩)] w fun e w' => e = .returned (.int .u64 x) ∧ Rw w' rb S p q ∧ Only w w' rb := by
  have := diff_any w rb S pos st h hp hS
  rw [he] at this
  exact this
theorem bR_eq {S : ByteArray} {pos st n x p q : Nat} (he : bR S pos st n = (x, p, q)) (h : st ≤ 1) : x < 2 ^ n ∧ p ≤ 8 * S.size ∧ q ≤ 1 := by
  have h1 := bR_lt S pos st n
  have h2 := bR_pos S pos st n
  have h3 := bR_st S pos st n h
  rw [he] at h1 h2 h3
  exact ⟨h1, h2, h3⟩
theorem dR_eq {S : ByteArray} {pos st x p q : Nat} (he : dR S pos st = (x, p, q)) (h : st ≤ 1) : x ≤ 18446744073709551615 ∧ p ≤ 8 * S.size ∧ q ≤ 1 := by
  have h1 := dR_le S pos st
  have h2 := dR_pos S pos st
  have h3 := dR_st S pos st h
  rw [he] at h1 h2 h3
  exact ⟨h1, h2, h3⟩
theorem own_only {base e size n rb : Nat} {w w' : World} {v : Value} {xs : List Value} (h : w.ownsRow base e size v n xs) (ho : Only w w' rb) (hb : rb < base) : w'.ownsRow base e size v n xs :=
  own_kept h fun k hk => ho.block k (World.ownsRow.lt h k hk).2 fun e => by have := (World.ownsRow.lt h k hk).1; cases e; omega
theorem below_only {w0 w w' : World} {rb : Nat} (h : Below w0.heap.size w0 w) (ho : Only w w' rb) (hb : w0.heap.size ≤ rb) : Below w0.heap.size w0 w' :=
  below_grownAt h ho h.size fun b e => by cases e; exact hb
theorem timeQ_eq {S : ByteArray} {u : US} {x p q : Nat} (h : dR S u.pos u.st = (x, p, q)) : timeQ S u = ⟨p, q, add64 u.t (add64 u.d x), add64 u.d x, u.b, u.a, u.z⟩ := by unfold timeQ; rw [h]
theorem oneQ_eq {S : ByteArray} {u : US} {x p q : Nat} (h : bR S u.pos u.st 1 = (x, p, q)) : oneQ S u = ⟨p, q, u.t, u.d, u.b, u.a, u.z⟩ := by unfold oneQ; rw [h]
theorem winQ_eq {S : ByteArray} {u : US} {x p q y p2 q2 : Nat} (h : bR S u.pos u.st 5 = (x, p, q)) (h2 : bR S p q 6 = (y, p2, q2)) : winQ S u = ⟨p2, q2, u.t, u.d, u.b, x, y + 1⟩ := by unfold winQ; rw [h]; simp only; rw [h2]
theorem inQ_none {S : ByteArray} {u : US} (h : u.z = 0 ∨ 64 < u.a + u.z) : inQ S u = none := if_pos h
theorem inQ_eq {S : ByteArray} {u : US} {x p q : Nat} (h0 : ¬ (u.z = 0 ∨ 64 < u.a + u.z)) (h : bR S u.pos u.st u.z = (x, p, q)) : inQ S u = some ⟨p, q, u.t, u.d, u.b ^^^ (x * 2 ^ (64 - u.a - u.z)), u.a, u.z⟩ := by unfold inQ; rw [if_neg h0, h]
theorem bitQ_zero {S : ByteArray} {u : US} {x p q : Nat} (h : bR S u.pos u.st 1 = (x, p, q)) (hx : x ≠ 1) : bitQ S u = some ⟨p, q, u.t, u.d, u.b, u.a, u.z⟩ := by unfold bitQ; rw [oneQ_eq h, h, if_neg hx]
theorem bitQ_old {S : ByteArray} {u : US} {p q y p2 q2 : Nat} (h : bR S u.pos u.st 1 = (1, p, q)) (h2 : bR S p q 1 = (y, p2, q2)) (hy : y ≠ 1) : bitQ S u = inQ S ⟨p2, q2, u.t, u.d, u.b, u.a, u.z⟩ := by
  unfold bitQ
  rw [oneQ_eq h, h, if_pos rfl]
  have e := oneQ_eq (u := ⟨p, q, u.t, u.d, u.b, u.a, u.z⟩) h2
  rw [e]
  simp only
  rw [h2, if_neg hy]
theorem bitQ_new {S : ByteArray} {u : US} {p q p2 q2 : Nat} (h : bR S u.pos u.st 1 = (1, p, q)) (h2 : bR S p q 1 = (1, p2, q2)) : bitQ S u = inQ S (winQ S ⟨p2, q2, u.t, u.d, u.b, u.a, u.z⟩) := by
  unfold bitQ
  rw [oneQ_eq h, h, if_pos rfl]
  have e := oneQ_eq (u := ⟨p, q, u.t, u.d, u.b, u.a, u.z⟩) h2
  rw [e]
  simp only
  rw [h2, if_pos rfl]
theorem goQ_bad {S : ByteArray} {k : Nat} {u : US} (h : u.st ≠ 0) : goQ S k u = none := by cases k <;> rw [goQ, if_neg h]
theorem goQ_none {S : ByteArray} {k : Nat} {u : US} (h : u.st = 0) (h2 : bitQ S (timeQ S u) = none) : goQ S (k + 1) u = none := by rw [goQ, if_pos h, h2]
theorem goQ_some {S : ByteArray} {k : Nat} {u v : US} (h : u.st = 0) (h2 : bitQ S (timeQ S u) = some v) : goQ S (k + 1) u = (goQ S k v).map (samU v :: ·) := by rw [goQ, if_pos h, h2]
theorem map_app {α : Type} (o : Option (List α)) (d : List α) (x : α) : (o.map (x :: ·)).map (d ++ ·) = o.map ((d ++ [x]) ++ ·) := by cases o <;> simp
theorem dbl_step {X z a j : Nat} (hX : X < 2 ^ z) (haz : a + z ≤ 64) (hj : j < 64 - a - z) : IntKind.u64.wrap (2 * ((X * 2 ^ j : Nat) : Int)) = ((X * 2 ^ (j + 1) : Nat) : Int) := by
  have h1 : X * 2 ^ (j + 1) < 2 ^ z * 2 ^ (j + 1) := Nat.mul_lt_mul_of_pos_right hX (Nat.two_pow_pos _)
  have h2 : 2 ^ z * 2 ^ (j + 1) ≤ 2 ^ 64 := by rw [← Nat.pow_add]; exact Nat.pow_le_pow_right (by decide) (by omega)
  have h3 : X * 2 ^ (j + 1) = 2 * (X * 2 ^ j) := by rw [Nat.pow_succ, ← Nat.mul_assoc]; omega
  rw [h3] at h1 ⊢
  have h4 : 2 * (X * 2 ^ j) < 18446744073709551616 := Nat.lt_of_lt_of_le h1 h2
  generalize X * 2 ^ j = Y at *
  rw [IntKind.wrap_u64]; omega
theorem shl_le {X z a : Nat} (hX : X < 2 ^ z) (haz : a + z ≤ 64) : X * 2 ^ (64 - a - z) ≤ 18446744073709551615 := by
  have h1 : X * 2 ^ (64 - a - z) < 2 ^ z * 2 ^ (64 - a - z) := Nat.mul_lt_mul_of_pos_right hX (Nat.two_pow_pos _)
  have h2 : 2 ^ z * 2 ^ (64 - a - z) ≤ 2 ^ 64 := by rw [← Nat.pow_add]; exact Nat.pow_le_pow_right (by decide) (by omega)
  have h3 : (2 : Nat) ^ 64 = 18446744073709551616 := by decide
  omega
theorem xor_le {a b : Nat} (ha : a ≤ 18446744073709551615) (hb : b ≤ 18446744073709551615) : a ^^^ b ≤ 18446744073709551615 := by
  have := Nat.xor_lt_two_pow (n := 64) (Nat.lt_succ_of_le ha) (Nat.lt_succ_of_le hb)
  exact Nat.le_of_lt_succ this
/-- The loop's state: the row so far. -/
structure SamSt (W w : World) (S : ByteArray) (u : US) (v : Value) (done : List (Int × Nat)) : Prop where
  below : Below W.heap.size W w
  row : Rw w W.heap.size S u.pos u.st
  own : w.ownsRow (W.heap.size + 1) 34 2 v done.length (samCells done)
  hpos : u.pos ≤ 8 * S.size
  hst : u.st ≤ 1
  ht : u.t ≤ 18446744073709551615
  hd : u.d ≤ 18446744073709551615
  hb : u.b ≤ 18446744073709551615
  haz : u.a + u.z ≤ 64
theorem SamSt.only {W w w' : World} {S : ByteArray} {u u' : US} {v : Value} {done : List (Int × Nat)} (h : SamSt W w S u v done) (hr : Rw w' W.heap.size S u'.pos u'.st) (ho : Only w w' W.heap.size) (hpos : u'.pos ≤ 8 * S.size) (hst : u'.st ≤ 1) (ht : u'.t ≤ 18446744073709551615)
    (hd : u'.d ≤ 18446744073709551615) (hb : u'.b ≤ 18446744073709551615) (haz : u'.a + u'.z ≤ 64) : SamSt W w' S u' v done :=
  ⟨below_only h.below ho (Nat.le_refl _), hr, own_only h.own ho (Nat.lt_succ_self _), hpos, hst, ht, hd, hb, haz⟩
theorem SamSt.lt {W w : World} {S : ByteArray} {u : US} {v : Value} {done : List (Int × Nat)} (h : SamSt W w S u v done) : W.heap.size < w.heap.size := Blk.lt h.row
theorem SamSt.bits {W w : World} {S : ByteArray} {u : US} {v : Value} {done : List (Int × Nat)} (h : SamSt W w S u v done) (hS : S.size ≤ 140737488355328) {n x p q : Nat} (hn : n ≤ 64) (he : bR S u.pos u.st n = (x, p, q)) :
    Calls Tryz.prog 142 #[.pointer (some ⟨W.heap.size, 0, none⟩), .int .i64 n] w fun e w' => e = .returned (.int .u64 x) ∧ SamSt W w' S ⟨p, q, u.t, u.d, u.b, u.a, u.z⟩ v done := by
  refine (bits_eq w W.heap.size S h.row h.hpos hS hn he).mono ?_
  rintro e w' ⟨h1, h2, h3⟩
  have := bR_eq he h.hst
  exact ⟨h1, h.only h2 h3 this.2.1 this.2.2 h.ht h.hd h.hb h.haz⟩
/-- One sample more. -/
theorem SamSt.grow {W w w1 w2 : World} {S : ByteArray} {u : US} {v v' : Value} {done : List (Int × Nat)} (h : SamSt W w S u v done) (ha : ∀ k, k < w.heap.size → w1.heap[k]? = w.heap[k]?) (hb1 : Below W.heap.size W w1) (hg : w1.grownBy w2 v.ownBlock)
    (ho : w2.ownsRow (W.heap.size + 1) 34 2 v' (done.length + 1) (samCells done ++ [.int .i64 (toI u.t), .int .u64 u.b])) : SamSt W w2 S u v' (done ++ [samU u]) := by
  have hlt := h.lt
  have hs1 : w.heap.size ≤ w1.heap.size := by
    rcases Nat.lt_or_ge w1.heap.size w.heap.size with h2 | h2
    · have h3 := ha w1.heap.size h2
      rw [Array.getElem?_eq_getElem h2] at h3
      have := (Array.getElem?_eq_some_iff.1 h3).1
      omega
    · exact h2
  refine ⟨below_grownAt hb1 hg (by omega) (fun b e => by have := (World.ownsRow.lt h.own b e).1; omega), Blk.kept h.row ((hg.block _ (by omega) (fun e => by have := (World.ownsRow.lt h.own _ e.symm).1; omega)).trans (ha _ hlt)), ?_, h.hpos, h.hst, h.ht, h.hd, h.hb, h.haz⟩
  have e : samCells (done ++ [samU u]) = samCells done ++ [.int .i64 (toI u.t), .int .u64 u.b] := samCells_snoc done (samU u)
  rw [e, List.length_append]; exact ho
def SamEnd (W w' : World) (S : ByteArray) (n : Nat) (e : Ending) : Prop :=
  (∃ a m c b, e = .returned (.tuple #[.slice a m c, .bool b]) ∧ (samplesQ S n = none → b = false) ∧ (∀ l, samplesQ S n = some l → b = true ∧ w'.ownsRow W.heap.size 34 2 (.slice a m c) l.length (samCells l))) ∧ Below W.heap.size W w'

set_option maxRecDepth 100000 in
set_option maxHeartbeats 1000000 in
theorem samplesRd_any (W : World) (S : ByteArray) (n : Nat) (hS : S.size ≤ 140737488355328) (hn63 : n ≤ 34359738368) :
    Calls Tryz.prog 120 #[.string S, .int .i64 n] W fun e w' => SamEnd W w' S n e := by
  obtain ⟨i1, hi1, hy0, hy1, hy2⟩ := info_parts Tryz.infoSam
  go_enter Tryz.func120, Tryz.ntmps120
  by_cases hbad : n < 1 ∨ 40 < n ∨ S.size < 16
  · have HN : Hid (samplesQ S n = none) := if_pos hbad
    by_cases h1 : n < 1
    · obtain rfl : n = 0 := by omega
      clear hbad
      go_wp2
      go_ret2
      exact ⟨⟨none, 0, 0, false, rfl, fun _ => rfl, fun l h => by rw [HN.out] at h; cases h⟩, Below.refl _ _⟩
    · by_cases h2 : 40 < n
      · clear hbad
        go_wp2
        go_ret2
        exact ⟨⟨none, 0, 0, false, rfl, fun _ => rfl, fun l h => by rw [HN.out] at h; cases h⟩, Below.refl _ _⟩
      · have h3 : S.size < 16 := by omega
        clear hbad
        go_wp2
        go_ret2
        exact ⟨⟨none, 0, 0, false, rfl, fun _ => rfl, fun l h => by rw [HN.out] at h; cases h⟩, Below.refl _ _⟩
  · have h1 : ¬ n < 1 := fun e => hbad (.inl e)
    have h2 : ¬ 40 < n := fun e => hbad (.inr (.inl e))
    have h3 : ¬ S.size < 16 := fun e => hbad (.inr (.inr e))
    have HQ : Hid (samplesQ S n = (goQ S (n - 1) (firstQ S)).map (samU (firstQ S) :: ·)) := if_neg hbad
    obtain ⟨t0, p0, q0, e0⟩ : ∃ x p q, bR S 0 0 64 = (x, p, q) := ⟨_, _, _, rfl⟩
    obtain ⟨b0, p1, q1, e1⟩ : ∃ x p q, bR S p0 q0 64 = (x, p, q) := ⟨_, _, _, rfl⟩
    have HF : Hid (firstQ S = ⟨p1, q1, t0, 0, b0, 0, 0⟩) := by show _ = _; unfold firstQ; rw [e0]; simp only; rw [e1]
    obtain ⟨x0, x1, x2⟩ := bR_eq e0 (by omega)
    obtain ⟨y0, y1, y2⟩ := bR_eq e1 x2
    have hW : Rw (W.alloc (.cells #[.string S, .int .i64 0, .bool false] 201)) W.heap.size S 0 0 := Blk.new W _ _
    have C0 := hide (bits_eq _ W.heap.size S hW (Nat.zero_le _) hS (by omega) e0)
    have HE1 := hide e1
    clear hbad hW e0 e1
    go_wp2_with fail
    refine C0.out.mono ?_
    rintro e w1 ⟨rfl, hr1, ho1⟩
    have C1 := hide (bits_eq w1 W.heap.size S hr1 x1 hS (by omega) HE1.out)
    have HB1 : Hid (Below W.heap.size W w1) := below_only ((Below.refl W.heap.size W).alloc (Nat.le_refl _) _) ho1 (Nat.le_refl _)
    clear hr1 ho1 C0 HE1
    go_wp2_with fail
    refine C1.out.mono ?_
    rintro e w2 ⟨rfl, hr2, ho2⟩
    have HB2 : Hid (Below W.heap.size W w2) := below_only HB1.out ho2 (Nat.le_refl _)
    have HR2 := hide hr2
    have ht0 : t0 ≤ 18446744073709551615 := Nat.le_of_lt_succ x0
    have hb0 : b0 ≤ 18446744073709551615 := Nat.le_of_lt_succ y0
    have htw := wrap_toI t0 ht0
    clear hr2 ho2 C1 HB1 x0 y0
    go_wp2
    have hl2 : W.heap.size < w2.heap.size := Blk.lt HR2.out
    have HS0 : Hid (SamSt W (w2.alloc (.cells #[.int .i64 (toI t0), .int .u64 b0] 34)) S ⟨p1, q1, t0, 0, b0, 0, 0⟩ (.slice (some ⟨w2.heap.size, 0, none⟩) 1 1) [samU ⟨p1, q1, t0, 0, b0, 0, 0⟩]) :=
      ⟨HB2.out.alloc (by omega) _, Blk.alloc HR2.out _, World.ownsRow_lit (base := W.heap.size + 1) (e := 34) (size := 2) w2 #[.int .i64 (toI t0), .int .u64 b0] 1 (by omega) (by decide) rfl, y1, y2, ht0, by show 0 ≤ 18446744073709551615; omega, hb0, by show 0 + 0 ≤ 64; omega⟩
    go_loopw [7, 8, 9, 10, 11, 12, 13, 14, 15, 16, 17] (fun tv bv lv dv av zv iv _ _ _ _ wr => ∃ (k : Nat) (u : US) (done : List (Int × Nat)), 1 ≤ k ∧ k ≤ n ∧ iv = .int .i64 k ∧ Hid (done.length = k) ∧ tv = .int .u64 u.t ∧ bv = .int .u64 u.b ∧ dv = .int .u64 u.d ∧ av = .int .i64 u.a ∧ zv = .int .i64 u.z ∧ Hid (SamSt W wr S u lv done) ∧ Hid (samplesQ S n = (goQ S (n - k) u).map (done ++ ·))) (fun _ _ _ _ _ _ i _ _ _ _ _ => n - (intOf i).toNat)
    case atStart => exact ⟨1, ⟨p1, q1, t0, 0, b0, 0, 0⟩, [samU ⟨p1, q1, t0, 0, b0, 0, 0⟩], by omega, by omega, rfl, rfl, rfl, rfl, rfl, rfl, rfl, HS0.out, by show _ = _; rw [HQ.out, HF.out]; rfl⟩
    case round =>
      obtain ⟨k, u, done, hk1, hkn, rfl, hdl, rfl, rfl, rfl, rfl, rfl, HS, HV⟩ := hrel
      clear HS0 HR2 HB2 HQ HF htw
      have hd40 : done.length ≤ 40 := by have := hdl.out; omega
      have c2 := Blk.cell HS.out.row (i := 2) rfl
      by_cases hst : u.st = 1
      · have hsd : decide (u.st = 1) = true := decide_eq_true hst
        rw [hsd] at c2
        have HN : Hid (samplesQ S n = none) := by show _ = _; rw [HV.out, goQ_bad (by omega)]; rfl
        have HB := hide HS.out.below
        obtain ⟨la, lc, rfl⟩ := own_shape HS.out.own
        clear hsd hst HV HS
        by_cases hlt : k < n
        · go_wp2
          go_quiet (fail)
          go_wp2
          go_ret2
          exact ⟨⟨_, _, _, false, rfl, fun _ => rfl, fun l h => by rw [HN.out] at h; cases h⟩, below_drewN HB.out _⟩
        · go_wp2
          go_quiet (fail)
          go_wp2
          go_ret2
          exact ⟨⟨_, _, _, false, rfl, fun _ => rfl, fun l h => by rw [HN.out] at h; cases h⟩, below_drewN HB.out _⟩
      · have hsd : decide (u.st = 1) = false := decide_eq_false hst
        rw [hsd] at c2
        have hst0 : u.st = 0 := by have := HS.out.hst; omega
        by_cases hlt : k < n
        · obtain ⟨x, px, qx, ex⟩ : ∃ x p q, dR S u.pos u.st = (x, p, q) := ⟨_, _, _, rfl⟩
          obtain ⟨z0, z1, z2⟩ := dR_eq ex HS.out.hst
          have C3 := hide (diff_eq wr W.heap.size S HS.out.row HS.out.hpos hS ex)
          have HTQ := hide (timeQ_eq ex)
          have hadd := wrap_add64 u.d x
          have hadd2 := wrap_add64 u.t (add64 u.d x)
          have hDl := add64_le u.d x
          have hTl := add64_le u.t (add64 u.d x)
          have Hst0 := hide hst0
          clear ex hsd hst hst0
          generalize add64 u.t (add64 u.d x) = T at *
          generalize add64 u.d x = D at *
          go_wp2_with fail
          refine C3.out.mono ?_
          rintro e w3 ⟨rfl, hr3, ho3⟩
          have HS3 : Hid (SamSt W w3 S ⟨px, qx, T, D, u.b, u.a, u.z⟩ u9 done) := HS.out.only hr3 ho3 z1 z2 hTl hDl HS.out.hb HS.out.haz
          obtain ⟨o, po, qo, eo⟩ : ∃ x p q, bR S px qx 1 = (x, p, q) := ⟨_, _, _, rfl⟩
          have C4 := hide (HS3.out.bits hS (by omega) eo)
          have HEo := hide eo
          clear hr3 ho3 C3 eo HS z0 c2
          go_wp2_with fail
          refine C4.out.mono ?_
          rintro e w4 ⟨rfl, hs4⟩
          have HS4 := hide hs4
          clear hs4 C4 HS3 hadd hadd2
          by_cases ho : o = 1
          · subst ho
            have HA1 := hide HS4.out.haz
            obtain ⟨fr, pf, qf, ef⟩ : ∃ x p q, bR S po qo 1 = (x, p, q) := ⟨_, _, _, rfl⟩
            have C5 := hide (HS4.out.bits hS (n := 1) (by omega) ef)
            have HEf := hide ef
            clear ef HS4
            go_wp2_with fail
            refine C5.out.mono ?_
            rintro e w5 ⟨rfl, hs5⟩
            have HS5 := hide hs5
            clear hs5 C5
            by_cases hf : fr = 1
            · subst hf
              obtain ⟨A, pa, qa, ea⟩ : ∃ x p q, bR S pf qf 5 = (x, p, q) := ⟨_, _, _, rfl⟩
              obtain ⟨Zm, pz, qz, ez⟩ : ∃ x p q, bR S pa qa 6 = (x, p, q) := ⟨_, _, _, rfl⟩
              have hA := (bR_eq ea HS5.out.hst).1
              have C6 := hide (HS5.out.bits hS (n := 5) (by omega) ea)
              have HQI : Hid (bitQ S (timeQ S u) = inQ S ⟨pz, qz, T, D, u.b, A, Zm + 1⟩) := by rw [HTQ.out, bitQ_new (u := ⟨px, qx, T, D, u.b, u.a, u.z⟩) HEo.out HEf.out]; exact congrArg (inQ S) (winQ_eq (u := ⟨pf, qf, T, D, u.b, u.a, u.z⟩) ea ez)
              have HEz := hide ez
              clear ea ez HEo HEf HTQ
              go_wp2_with fail
              refine C6.out.mono ?_
              rintro e w6 ⟨rfl, hs6⟩
              have hZ := (bR_eq HEz.out hs6.hst).1
              have C7 := hide (hs6.bits hS (n := 6) (by omega) HEz.out)
              clear hs6 C6 HS5 HEz
              go_wp2_with fail
              refine C7.out.mono ?_
              rintro e w7 ⟨rfl, hs7⟩
              have HS7 := hide hs7
              clear hs7 C7
              obtain ⟨Z, hZe⟩ : ∃ Z, Z = Zm + 1 := ⟨_, rfl⟩
              have hZi : (Zm : Int) + 1 = (Z : Int) := by omega
              have hZl : Z ≤ 64 := by omega
              have hAl : A ≤ 31 := by omega
              have hZm : Zm ≤ 63 := by omega
              rw [← hZe] at HQI
              clear hZe hA hZ HA1

              by_cases hzz1 : Z = 0 ∨ 64 < A + Z
              · have HN : Hid (samplesQ S n = none) := by
                  show _ = _
                  rw [HV.out, show n - k = (n - (k + 1)) + 1 by omega, goQ_none Hst0.out (by rw [HQI.out]; exact inQ_none hzz1)]; rfl
                have HB := hide HS7.out.below
                clear HV HQI Hst0
                by_cases hz : Z = 0
                · have hzi : (Z : Int) = 0 := by omega
                  clear hzz1
                  go_wp2
                  go_ret2
                  exact ⟨⟨none, 0, 0, false, rfl, fun _ => rfl, fun l h => by rw [HN.out] at h; cases h⟩, HB.out⟩
                · have hzi : ¬ (Z : Int) = 0 := by omega
                  have hzj : 64 < (A : Int) + (Z : Int) := by omega
                  clear hzz1
                  go_wp2
                  go_ret2
                  exact ⟨⟨none, 0, 0, false, rfl, fun _ => rfl, fun l h => by rw [HN.out] at h; cases h⟩, HB.out⟩
              · obtain ⟨X, p9, q9, h9⟩ : ∃ x p q, bR S pz qz Z = (x, p, q) := ⟨_, _, _, rfl⟩
                have hz1 : Z ≠ 0 := fun e => hzz1 (.inl e)
                have hz2 : A + Z ≤ 64 := by omega
                have hzi : ¬ (Z : Int) = 0 := by omega
                have hzj : ¬ 64 < (A : Int) + (Z : Int) := by omega
                have hzd : decide ((Z : Int) = 0) = false := decide_eq_false hzi
                have hze : decide (64 < (A : Int) + (Z : Int)) = false := decide_eq_false hzj
                have HQ9 : Hid (bitQ S (timeQ S u) = some ⟨p9, q9, T, D, u.b ^^^ (X * 2 ^ (64 - A - Z)), A, Z⟩) := by rw [HQI.out]; exact inQ_eq hzz1 h9
                have HX := hide (bR_eq h9 HS7.out.hst).1
                have C9 := hide (HS7.out.bits hS (n := Z) (by omega) h9)
                clear hzz1 h9 HQI
                go_wp2_with fail
                refine C9.out.mono ?_
                rintro e w9 ⟨rfl, hs9⟩
                have HS9 := hide hs9
                clear hs9 C9 HS7
                go_wp2
                go_loopw [14, 17] (fun xv kv wr2 => ∃ j Y : Nat, j ≤ 64 - A - Z ∧ Hid (Y = X * 2 ^ j) ∧ xv = .int .u64 Y ∧ kv = .int .i64 j ∧ w9 = wr2) (fun _ kv _ => 64 - A - Z - (intOf kv).toNat)
                case atStart => exact ⟨0, X, by omega, by show X = X * 2 ^ 0; omega, rfl, rfl, rfl⟩
                case round =>
                  obtain ⟨j, Y, hj, HY, rfl, rfl, rfl⟩ := hrel
                  by_cases hjl : j < 64 - A - Z
                  · have hji : (j : Int) < 64 - (A : Int) - (Z : Int) := by omega
                    obtain ⟨Y2, hY2⟩ : ∃ Y2, Y2 = X * 2 ^ (j + 1) := ⟨_, rfl⟩
                    have hdb := dbl_step HX.out hz2 hjl
                    rw [← HY.out, ← hY2] at hdb
                    have HY2 := hide hY2
                    clear hY2
                    go_wp2
                    go_roundw
                    case rel => exact ⟨j + 1, Y2, by omega, HY2.out, rfl, by go_num, by trivial⟩
                    case measure => simp [intOf]; omega
                  · have hji : ¬ (j : Int) < 64 - (A : Int) - (Z : Int) := by omega
                    have hje : j = 64 - A - Z := by omega
                    obtain ⟨Bn, hBn⟩ : ∃ Bn, Bn = u.b ^^^ Y := ⟨_, rfl⟩
                    have hYl : Y ≤ 18446744073709551615 := by rw [HY.out, hje]; exact shl_le HX.out hz2
                    have hbl : u.b ≤ 18446744073709551615 := HS9.out.hb
                    have hxor := bits_xor_u64_is u.b Y hbl hYl
                    rw [← hBn] at hxor
                    have HQB : Hid (bitQ S (timeQ S u) = some ⟨p9, q9, T, D, Bn, A, Z⟩) := by rw [hBn, HY.out, hje]; exact HQ9.out
                    have HSA : Hid (SamSt W w9 S ⟨p9, q9, T, D, Bn, A, Z⟩ u9 done) := ⟨HS9.out.below, HS9.out.row, HS9.out.own, HS9.out.hpos, HS9.out.hst, hTl, hDl, by rw [hBn]; exact xor_le hbl hYl, hz2⟩
                    clear HS9 HQ9 hBn hje HY HX hYl hbl
                    obtain ⟨la, lc, rfl⟩ := own_shape HSA.out.own
                    have hlt19 := HSA.out.lt
                    have ht19 := wrap_toI T hTl
                    have HG19 : Hid (samplesQ S n = (goQ S (n - (k + 1)) (⟨p9, q9, T, D, Bn, A, Z⟩ : US)).map ((done ++ [samU (⟨p9, q9, T, D, Bn, A, Z⟩ : US)]) ++ ·)) := by
                      show _ = _
                      rw [HV.out, show n - k = (n - (k + 1)) + 1 by omega, goQ_some Hst0.out HQB.out, map_app]
                    clear HV HQB Hst0
                    go_wp2_with (first | (at_builtin; refine wpList_append_heir _ rfl (.tmp 99) (.tmp 104) 35 rfl (W.heap.size + 1) 34 i1 (.agg #[.int .i64 0, .int .u64 0]) 2 16 Tryz.underlying35 hi1 hy0 hy1 hy2 rfl (by decide) _ done.length (samCells done) rfl (own_alloc HSA.out.own _) ⟨w9.heap.size, 0, none⟩ 1 1 [.int .i64 (toI T), .int .u64 Bn] rfl rfl (cells_new w9 _ _) (one_two rfl rfl) (by unfold maxLen; omega) (by omega) (by simp; omega) ?_) | fail)
                    intro v9 wF ho9 hg9 hh9
                    have HSF : Hid (SamSt W wF S (⟨p9, q9, T, D, Bn, A, Z⟩ : US) v9 (done ++ [samU (⟨p9, q9, T, D, Bn, A, Z⟩ : US)])) := HSA.out.grow (fun q hq => heap_alloc_old w9 _ hq) (HSA.out.below.alloc (by omega) _) hg9 ho9
                    clear ho9 hg9 hh9 HSA ht19
                    go_wp2
                    go_roundw
                    case rel => exact ⟨k + 1, (⟨p9, q9, T, D, Bn, A, Z⟩ : US), done ++ [samU (⟨p9, q9, T, D, Bn, A, Z⟩ : US)], by omega, by omega, by go_num, by have := hdl.out; show (done ++ [samU (⟨p9, q9, T, D, Bn, A, Z⟩ : US)]).length = k + 1; rw [List.length_append, this]; rfl, rfl, rfl, rfl, rfl, rfl, HSF.out, HG19.out⟩
                    case measure => simp [intOf]; omega
            · have HQI : Hid (bitQ S (timeQ S u) = inQ S ⟨pf, qf, T, D, u.b, u.a, u.z⟩) := by rw [HTQ.out]; exact bitQ_old (u := ⟨px, qx, T, D, u.b, u.a, u.z⟩) HEo.out HEf.out hf
              have hza : u.a + u.z ≤ 64 := HA1.out
              clear HEo HEf HTQ HA1
              by_cases hzz0 : u.z = 0 ∨ 64 < u.a + u.z
              · have HN : Hid (samplesQ S n = none) := by
                  show _ = _
                  rw [HV.out, show n - k = (n - (k + 1)) + 1 by omega, goQ_none Hst0.out (by rw [HQI.out]; exact inQ_none hzz0)]; rfl
                have HB := hide HS5.out.below
                clear HV HQI Hst0
                by_cases hz : u.z = 0
                · have hzi : (u.z : Int) = 0 := by omega
                  clear hzz0
                  go_wp2
                  go_ret2
                  exact ⟨⟨none, 0, 0, false, rfl, fun _ => rfl, fun l h => by rw [HN.out] at h; cases h⟩, HB.out⟩
                · exact absurd hzz0 (by omega)
              · obtain ⟨X, p9, q9, h9⟩ : ∃ x p q, bR S pf qf u.z = (x, p, q) := ⟨_, _, _, rfl⟩
                have hz1 : u.z ≠ 0 := fun e => hzz0 (.inl e)
                have hz2 : u.a + u.z ≤ 64 := by omega
                have hzi : ¬ (u.z : Int) = 0 := by omega
                have hzj : ¬ 64 < (u.a : Int) + (u.z : Int) := by omega
                have hzd : decide ((u.z : Int) = 0) = false := decide_eq_false hzi
                have hze : decide (64 < (u.a : Int) + (u.z : Int)) = false := decide_eq_false hzj
                have HQ9 : Hid (bitQ S (timeQ S u) = some ⟨p9, q9, T, D, u.b ^^^ (X * 2 ^ (64 - u.a - u.z)), u.a, u.z⟩) := by rw [HQI.out]; exact inQ_eq hzz0 h9
                have HX := hide (bR_eq h9 HS5.out.hst).1
                have C9 := hide (HS5.out.bits hS (n := u.z) (by omega) h9)
                clear hzz0 h9 HQI
                go_wp2_with fail
                refine C9.out.mono ?_
                rintro e w9 ⟨rfl, hs9⟩
                have HS9 := hide hs9
                clear hs9 C9 HS5
                go_wp2
                go_loopw [14, 17] (fun xv kv wr2 => ∃ j Y : Nat, j ≤ 64 - u.a - u.z ∧ Hid (Y = X * 2 ^ j) ∧ xv = .int .u64 Y ∧ kv = .int .i64 j ∧ w9 = wr2) (fun _ kv _ => 64 - u.a - u.z - (intOf kv).toNat)
                case atStart => exact ⟨0, X, by omega, by show X = X * 2 ^ 0; omega, rfl, rfl, rfl⟩
                case round =>
                  obtain ⟨j, Y, hj, HY, rfl, rfl, rfl⟩ := hrel
                  by_cases hjl : j < 64 - u.a - u.z
                  · have hji : (j : Int) < 64 - (u.a : Int) - (u.z : Int) := by omega
                    obtain ⟨Y2, hY2⟩ : ∃ Y2, Y2 = X * 2 ^ (j + 1) := ⟨_, rfl⟩
                    have hdb := dbl_step HX.out hz2 hjl
                    rw [← HY.out, ← hY2] at hdb
                    have HY2 := hide hY2
                    clear hY2
                    go_wp2
                    go_roundw
                    case rel => exact ⟨j + 1, Y2, by omega, HY2.out, rfl, by go_num, by trivial⟩
                    case measure => simp [intOf]; omega
                  · have hji : ¬ (j : Int) < 64 - (u.a : Int) - (u.z : Int) := by omega
                    have hje : j = 64 - u.a - u.z := by omega
                    obtain ⟨Bn, hBn⟩ : ∃ Bn, Bn = u.b ^^^ Y := ⟨_, rfl⟩
                    have hYl : Y ≤ 18446744073709551615 := by rw [HY.out, hje]; exact shl_le HX.out hz2
                    have hbl : u.b ≤ 18446744073709551615 := HS9.out.hb
                    have hxor := bits_xor_u64_is u.b Y hbl hYl
                    rw [← hBn] at hxor
                    have HQB : Hid (bitQ S (timeQ S u) = some ⟨p9, q9, T, D, Bn, u.a, u.z⟩) := by rw [hBn, HY.out, hje]; exact HQ9.out
                    have HSA : Hid (SamSt W w9 S ⟨p9, q9, T, D, Bn, u.a, u.z⟩ u9 done) := ⟨HS9.out.below, HS9.out.row, HS9.out.own, HS9.out.hpos, HS9.out.hst, hTl, hDl, by rw [hBn]; exact xor_le hbl hYl, hz2⟩
                    clear HS9 HQ9 hBn hje HY HX hYl hbl
                    obtain ⟨la, lc, rfl⟩ := own_shape HSA.out.own
                    have hlt09 := HSA.out.lt
                    have ht09 := wrap_toI T hTl
                    have HG09 : Hid (samplesQ S n = (goQ S (n - (k + 1)) (⟨p9, q9, T, D, Bn, u.a, u.z⟩ : US)).map ((done ++ [samU (⟨p9, q9, T, D, Bn, u.a, u.z⟩ : US)]) ++ ·)) := by
                      show _ = _
                      rw [HV.out, show n - k = (n - (k + 1)) + 1 by omega, goQ_some Hst0.out HQB.out, map_app]
                    clear HV HQB Hst0
                    go_wp2_with (first | (at_builtin; refine wpList_append_heir _ rfl (.tmp 99) (.tmp 104) 35 rfl (W.heap.size + 1) 34 i1 (.agg #[.int .i64 0, .int .u64 0]) 2 16 Tryz.underlying35 hi1 hy0 hy1 hy2 rfl (by decide) _ done.length (samCells done) rfl (own_alloc HSA.out.own _) ⟨w9.heap.size, 0, none⟩ 1 1 [.int .i64 (toI T), .int .u64 Bn] rfl rfl (cells_new w9 _ _) (one_two rfl rfl) (by unfold maxLen; omega) (by omega) (by simp; omega) ?_) | fail)
                    intro v9 wF ho9 hg9 hh9
                    have HSF : Hid (SamSt W wF S (⟨p9, q9, T, D, Bn, u.a, u.z⟩ : US) v9 (done ++ [samU (⟨p9, q9, T, D, Bn, u.a, u.z⟩ : US)])) := HSA.out.grow (fun q hq => heap_alloc_old w9 _ hq) (HSA.out.below.alloc (by omega) _) hg9 ho9
                    clear ho9 hg9 hh9 HSA ht09
                    go_wp2
                    go_roundw
                    case rel => exact ⟨k + 1, (⟨p9, q9, T, D, Bn, u.a, u.z⟩ : US), done ++ [samU (⟨p9, q9, T, D, Bn, u.a, u.z⟩ : US)], by omega, by omega, by go_num, by have := hdl.out; show (done ++ [samU (⟨p9, q9, T, D, Bn, u.a, u.z⟩ : US)]).length = k + 1; rw [List.length_append, this]; rfl, rfl, rfl, rfl, rfl, rfl, HSF.out, HG09.out⟩
                    case measure => simp [intOf]; omega
          · have HQB : Hid (bitQ S (timeQ S u) = some ⟨po, qo, T, D, u.b, u.a, u.z⟩) := by rw [HTQ.out]; exact bitQ_zero HEo.out ho
            have hx0 : Go.bits .xor .u64 (u.b : Int) 0 = (u.b : Int) := by have := bits_xor_u64_is u.b 0 HS4.out.hb (by omega); simpa using this
            clear HEo HTQ
            obtain ⟨la, lc, rfl⟩ := own_shape HS4.out.own
            have hlt0 := HS4.out.lt
            have ht0 := wrap_toI T hTl
            have HG0 : Hid (samplesQ S n = (goQ S (n - (k + 1)) (⟨po, qo, T, D, u.b, u.a, u.z⟩ : US)).map ((done ++ [samU (⟨po, qo, T, D, u.b, u.a, u.z⟩ : US)]) ++ ·)) := by
              show _ = _
              rw [HV.out, show n - k = (n - (k + 1)) + 1 by omega, goQ_some Hst0.out HQB.out, map_app]
            clear HV HQB Hst0
            go_wp2_with (first | (at_builtin; refine wpList_append_heir _ rfl (.tmp 99) (.tmp 104) 35 rfl (W.heap.size + 1) 34 i1 (.agg #[.int .i64 0, .int .u64 0]) 2 16 Tryz.underlying35 hi1 hy0 hy1 hy2 rfl (by decide) _ done.length (samCells done) rfl (own_alloc HS4.out.own _) ⟨w4.heap.size, 0, none⟩ 1 1 [.int .i64 (toI T), .int .u64 u.b] rfl rfl (cells_new w4 _ _) (one_two rfl rfl) (by unfold maxLen; omega) (by omega) (by simp; omega) ?_) | fail)
            intro v9 w9 ho9 hg9 hh9
            have HS9 : Hid (SamSt W w9 S (⟨po, qo, T, D, u.b, u.a, u.z⟩ : US) v9 (done ++ [samU (⟨po, qo, T, D, u.b, u.a, u.z⟩ : US)])) := HS4.out.grow (fun q hq => heap_alloc_old w4 _ hq) (HS4.out.below.alloc (by omega) _) hg9 ho9
            clear ho9 hg9 hh9 HS4 ht0
            go_wp2
            go_roundw
            case rel => exact ⟨k + 1, (⟨po, qo, T, D, u.b, u.a, u.z⟩ : US), done ++ [samU (⟨po, qo, T, D, u.b, u.a, u.z⟩ : US)], by omega, by omega, by go_num, by have := hdl.out; show (done ++ [samU (⟨po, qo, T, D, u.b, u.a, u.z⟩ : US)]).length = k + 1; rw [List.length_append, this]; rfl, rfl, rfl, rfl, rfl, rfl, HS9.out, HG0.out⟩
            case measure => simp [intOf]; omega
        · obtain rfl : k = n := by omega
          have HN : Hid (samplesQ S done.length = some done) := by
            show _ = _
            rw [hdl.out, HV.out, Nat.sub_self, goQ, if_pos hst0]; simp
          have HB := hide HS.out.below
          have HO := hide (own_mono HS.out.own (Nat.le_succ _))
          obtain ⟨la, lc, rfl⟩ := own_shape HS.out.own
          clear hsd hst HV HS hst0
          go_wp2
          go_quiet (fail)
          go_wp2
          go_ret2
          refine ⟨⟨_, _, _, true, rfl, fun h => ?_, fun l h => ?_⟩, below_drewN HB.out _⟩
          · rw [← hdl.out, HN.out] at h; cases h
          · rw [← hdl.out, HN.out] at h; cases h; exact ⟨rfl, own_kept HO.out fun _ _ => rfl⟩
end Go.Proofs.YtamcclcbmenjdaaGreatDoor

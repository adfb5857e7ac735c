/- 'choirlaw.Reads', for any list of texts of bulk at most 1048576: Decode answers the document's batch or error, one behind the other; lists that came out are their owner's own. The second form's statement and its card: its only condition is the row's own bound on the argument's bulk. -/
import Derived.Test.YtamcclcbmenjdaaGreatDoorReadsuptoG23
import Derived.Test.YtamcclcbmenjdaaGreatDoorReadsuptoG28
import Derived.Test.YtamcclcbmenjdaaGreatDoorReadsuptoG24
/- What the reference reads lies within bounds; it reads a frame, and nothing else is one: pure. -/
namespace Go.Proofs.YtamcclcbmenjdaaGreatDoor

theorem inQ_le {S : ByteArray} {u v : US} (h : inQ S u = some v) (hb : u.b ≤ 18446744073709551615) (ht : u.t ≤ 18446744073709551615) : v.b ≤ 18446744073709551615 ∧ v.t ≤ 18446744073709551615 := by
  unfold inQ at h
  split at h
  · cases h
  · rename_i hz
    have hx := bR_lt S u.pos u.st u.z
    generalize bR S u.pos u.st u.z = r at *
    cases h
    exact ⟨xor_le hb (shl_le hx (by omega)), ht⟩
theorem bitQ_le {S : ByteArray} {u v : US} (h : bitQ S u = some v) (hb : u.b ≤ 18446744073709551615) (ht : u.t ≤ 18446744073709551615) : v.b ≤ 18446744073709551615 ∧ v.t ≤ 18446744073709551615 := by
  unfold bitQ at h
  split at h
  · split at h
    · exact inQ_le h hb ht
    · exact inQ_le h hb ht
  · cases h; exact ⟨hb, ht⟩
theorem samU_rng {u : US} (hb : u.b ≤ 18446744073709551615) (ht : u.t ≤ 18446744073709551615) : -9223372036854775808 ≤ (samU u).1 ∧ (samU u).1 ≤ 9223372036854775807 ∧ (samU u).2 ≤ 18446744073709551615 :=
  ⟨(toI_range u.t ht).1, (toI_range u.t ht).2, hb⟩
theorem goQ_rng (S : ByteArray) : ∀ (k : Nat) (u : US) (l : List (Int × Nat)), goQ S k u = some l → u.b ≤ 18446744073709551615 → u.t ≤ 18446744073709551615 → l.length = k ∧ Rng l
  | 0, u, l, h, _, _ => by
    rw [goQ] at h
    split at h
    · cases h; exact ⟨rfl, fun x hx => by cases hx⟩
    · cases h
  | k + 1, u, l, h, hb, ht => by
    rw [goQ] at h
    split at h
    · cases hq : bitQ S (timeQ S u) with
      | none => rw [hq] at h; cases h
      | some v =>
        rw [hq] at h
        simp only at h
        obtain ⟨l', h1, rfl⟩ := Option.map_eq_some_iff.1 h
        have hv := bitQ_le hq hb (add64_le _ _)
        obtain ⟨h2, h3⟩ := goQ_rng S k v l' h1 hv.1 hv.2
        refine ⟨by simp [h2], fun x hx => ?_⟩
        rcases List.mem_cons.1 hx with rfl | hx
        · exact samU_rng hv.1 hv.2
        · exact h3 x hx
    · cases h
theorem firstQ_le (S : ByteArray) : (firstQ S).b ≤ 18446744073709551615 ∧ (firstQ S).t ≤ 18446744073709551615 := by
  have h1 := bR_lt S 0 0 64
  have h2 := bR_lt S (bR S 0 0 64).2.1 (bR S 0 0 64).2.2 64
  unfold firstQ
  simp only
  exact ⟨Nat.le_of_lt_succ h2, Nat.le_of_lt_succ h1⟩
theorem samplesQ_rng {S : ByteArray} {n : Nat} {l : List (Int × Nat)} (h : samplesQ S n = some l) : l.length ≤ 40 ∧ Rng l := by
  unfold samplesQ at h
  split at h
  · cases h
  · rename_i hn
    obtain ⟨l', h1, rfl⟩ := Option.map_eq_some_iff.1 h
    have hf := firstQ_le S
    obtain ⟨h2, h3⟩ := goQ_rng S _ _ l' h1 hf.1 hf.2
    refine ⟨by simp; omega, fun x hx => ?_⟩
    rcases List.mem_cons.1 hx with rfl | hx
    · exact samU_rng hf.1 hf.2
    · exact h3 x hx
theorem lQ_len (S : ByteArray) (t : List ByteArray) : ∀ (k p : Nat) (bad : Bool) (r : List Lab × Nat), lQ S t k p bad = some r → r.1.length = k
  | 0, p, bad, r, h => by
    rw [lQ] at h
    split at h
    · cases h
    · cases h; rfl
  | k + 1, p, bad, r, h => by
    rw [lQ] at h
    split at h
    · cases h
    · split at h
      · cases h
      · obtain ⟨r', h1, rfl⟩ := Option.map_eq_some_iff.1 h
        simp [lQ_len S t k _ _ r' h1]
theorem serQ_small {S : ByteArray} {t : List ByteArray} {p q : Nat} {s : Ser} (h : serQ S t p = some (s, q)) : s.1.length ≤ 4 ∧ s.2.length ≤ 40 ∧ Rng s.2 := by
  unfold serQ at h
  split at h
  · cases h
  · rename_i hn
    cases hl : lQ S t (vR S p false).1 (vR S p false).2.1 (vR S p false).2.2 with
    | none => rw [hl] at h; cases h
    | some r =>
      obtain ⟨l, a1⟩ := r
      rw [hl] at h
      simp only at h
      obtain ⟨r', h1, h2⟩ := Option.map_eq_some_iff.1 h
      cases h2
      have h3 := lQ_len S t _ _ _ _ hl
      unfold mQ at h1
      obtain ⟨m, h4, rfl⟩ := Option.map_eq_some_iff.1 h1
      have h5 := samplesQ_rng h4
      exact ⟨by show l.length ≤ 4; simp only at h3; omega, h5.1, h5.2⟩
theorem gQ_small (S : ByteArray) (t : List ByteArray) : ∀ (k p : Nat) (bs : List Ser), gQ S t k p = some bs → bs.length = k ∧ ∀ s ∈ bs, s.1.length ≤ 4 ∧ s.2.length ≤ 40 ∧ Rng s.2
  | 0, p, bs, h => by rw [gQ] at h; cases h; exact ⟨rfl, fun s hs => by cases hs⟩
  | k + 1, p, bs, h => by
    rw [gQ] at h
    cases hs : serQ S t p with
    | none => rw [hs] at h; cases h
    | some r =>
      obtain ⟨s, a1⟩ := r
      rw [hs] at h
      simp only at h
      obtain ⟨bs', h1, rfl⟩ := Option.map_eq_some_iff.1 h
      obtain ⟨h2, h3⟩ := gQ_small S t k a1 bs' h1
      refine ⟨by simp [h2], fun x hx => ?_⟩
      rcases List.mem_cons.1 hx with rfl | hx
      · exact serQ_small hs
      · exact h3 x hx
/-- A frame is read by the reference as by the program. -/
theorem frame_dec {S : ByteArray} (h : IsFrame S.data.toList) : decQ (S.extract 0 (S.size - 4)) = some (got S.data.toList) := by
  have e := h.eq
  have hr : InRange (got S.data.toList) := (payR_small (BA (inner S.data.toList))).2
  have h1 := decQ_of _ h.batch h.limits hr
  have hsz : S.data.toList.length = S.size := by simp
  have hx : S.extract 0 (S.size - 4) = BA (headOf (payload (got S.data.toList))) := by
    have h2 := BA_take (headOf (payload (got S.data.toList))) (le32 (Pl.crc (headOf (payload (got S.data.toList)))))
    have h3 : BA (headOf (payload (got S.data.toList)) ++ le32 (Pl.crc (headOf (payload (got S.data.toList))))) = S := by
      show BA (frameOf (payload (got S.data.toList))) = S
      rw [← e, BA_of]
    have h4 : (headOf (payload (got S.data.toList))).length = S.size - 4 := by
      have h5 := frameOf_length (payload (got S.data.toList))
      have h6 := headOf_length (payload (got S.data.toList))
      rw [← e, hsz] at h5
      omega
    rw [h3, h4] at h2
    exact h2
  rw [hx]; exact h1
/-- What was read, packed again, is the text: then it is a frame, of that. -/
theorem dec_frame {S : ByteArray} {bs : List Ser} (hc : Code bs 0) (hr : InRange bs) (he : BA (frameOf (payload bs)) = S) : IsFrame S.data.toList ∧ got S.data.toList = bs := by
  have hok : BatchOk bs ∧ LimitsOk bs := by
    rcases hc with ⟨h, _⟩ | ⟨h, _⟩ | ⟨_, h⟩
    · cases h
    · cases h
    · exact h
  have h := frame_is bs hok.1 hok.2 hr
  rw [← he, BA_list]
  exact h
theorem dec_no {S : ByteArray} {bs : List Ser} {n : Nat} (hd : decQ (S.extract 0 (S.size - 4)) = some bs) (hc : Code bs n) (h : n ≠ 0 ∨ BA (frameOf (payload bs)) ≠ S) : ¬ IsFrame S.data.toList := fun hf => by
  have h1 := frame_dec hf
  rw [hd] at h1
  cases h1
  rcases h with h | h
  · exact h (hc.unique (.inr (.inr ⟨rfl, hf.batch, hf.limits⟩)))
  · refine h ?_
    rw [← hf.eq, BA_of]
theorem dec_none {S : ByteArray} (hd : decQ (S.extract 0 (S.size - 4)) = none) : ¬ IsFrame S.data.toList := fun hf => by
  have h1 := frame_dec hf
  rw [hd] at h1
  cases h1
theorem tQ_bad (S : ByteArray) (k p : Nat) : tQ S k p true = ([], p, true) := by cases k <;> simp [tQ]
theorem tQ_zero (S : ByteArray) (p : Nat) (bad : Bool) : tQ S 0 p bad = ([], p, bad) := rfl
theorem tQ_on {S X : ByteArray} {k p z p1 p2 : Nat} {b1 b2 : Bool} (h1 : vR S p false = (z, p1, b1)) (h2 : partR S p1 b1 z = (X, p2, b2)) : tQ S (k + 1) p false = (X :: (tQ S k p2 b2).1, (tQ S k p2 b2).2) := by
  rw [tQ, if_neg (by decide), h1]; simp only; rw [h2]
theorem decQ_bad {S : ByteArray} {n p1 q m q1 : Nat} {b1 bb b2 : Bool} {t : List ByteArray} (h1 : vR S 7 false = (n, p1, b1)) (h2 : tQ S n p1 b1 = (t, q, bb)) (h3 : vR S q bb = (m, q1, b2)) (h : b2 = true ∨ 8 < m) : decQ S = none := by
  unfold decQ; rw [h1]; simp only; rw [h2]; simp only; rw [h3, if_pos h]
theorem decQ_good {S : ByteArray} {n p1 q m q1 : Nat} {b1 bb : Bool} {t : List ByteArray} (h1 : vR S 7 false = (n, p1, b1)) (h2 : tQ S n p1 b1 = (t, q, bb)) (h3 : vR S q bb = (m, q1, false)) (h : ¬ 8 < m) : decQ S = gQ S t m q1 := by
  unfold decQ; rw [h1]; simp only; rw [h2]; simp only; rw [h3, if_neg (by rintro (h4 | h4); cases h4; exact h h4)]
end Go.Proofs.YtamcclcbmenjdaaGreatDoor

/- The reference: Decode. -/
namespace Go.Proofs.YtamcclcbmenjdaaGreatDoor
open Go.RowKit Go.Lib

/-- The state of Decode as it reads texts. -/
structure D1 (W w : World) (s : ByteArray) (q : Nat) (bb : Bool) (tv : Value) (t : List ByteArray) : Prop where
  below : Below W.heap.size W w
  rdr : Rdr w W.heap.size s q bb
  own : w.ownsRow (W.heap.size + 1) 9 1 tv t.length (Strs t)
  hq : q ≤ s.size
theorem D1.call {W w w' : World} {s : ByteArray} {q r : Nat} {bb b : Bool} {tv : Value} {t : List ByteArray} (h : D1 W w s q bb tv t) (hr : Rdr w' W.heap.size s r b) (ho : Only w w' W.heap.size) (hq : r ≤ s.size) : D1 W w' s r b tv t :=
  ⟨below_only h.below ho (Nat.le_refl _), hr, own_only h.own ho (Nat.lt_succ_self _), hq⟩
theorem D1.lt {W w : World} {s : ByteArray} {q : Nat} {bb : Bool} {tv : Value} {t : List ByteArray} (h : D1 W w s q bb tv t) : W.heap.size < w.heap.size := Blk.lt h.rdr
theorem D1.grow {W w w1 w2 : World} {s X : ByteArray} {q : Nat} {bb : Bool} {tv tv' : Value} {t : List ByteArray} (h : D1 W w s q bb tv t) (ha : ∀ k, k < w.heap.size → w1.heap[k]? = w.heap[k]?) (hb1 : Below W.heap.size W w1) (hs1 : w.heap.size ≤ w1.heap.size) (hg : w1.grownBy w2 tv.ownBlock)
    (ho : w2.ownsRow (W.heap.size + 1) 9 1 tv' (t.length + 1) (Strs t ++ [.string X])) : D1 W w2 s q bb tv' (t ++ [X]) := by
  have hlt := h.lt
  refine ⟨below_grownAt hb1 hg (by omega) (fun b e => by have := (World.ownsRow.lt h.own b e).1; omega), Blk.kept h.rdr ((hg.block _ (by omega) (fun e => by have := (World.ownsRow.lt h.own _ e.symm).1; omega)).trans (ha _ hlt)), ?_, h.hq⟩
  have e : Strs (t ++ [X]) = Strs t ++ [.string X] := by simp [Strs]
  rw [e, List.length_append]; exact ho
/-- The state of Decode as it reads series. -/
structure D2 (W w : World) (s : ByteArray) (q : Nat) (bb : Bool) (tv : Value) (t : List ByteArray) (bv : Value) (vals : List (Value × Value)) : Prop where
  d1 : D1 W w s q bb tv t
  own : w.ownsRow (W.heap.size + 1) 38 2 bv vals.length (serCells vals)
theorem D2.call {W w w' : World} {s : ByteArray} {q r : Nat} {bb b : Bool} {tv bv : Value} {t : List ByteArray} {vals : List (Value × Value)} (h : D2 W w s q bb tv t bv vals) (hr : Rdr w' W.heap.size s r b) (ho : Only w w' W.heap.size) (hq : r ≤ s.size) : D2 W w' s r b tv t bv vals :=
  ⟨h.d1.call hr ho hq, own_only h.own ho (Nat.lt_succ_self _)⟩
theorem sers_only {w w' : World} {base rb : Nat} {vals : List (Value × Value)} {bs : List Ser} (h : Sers w base vals bs) (ho : Only w w' rb) (hb : rb < base) : Sers w' base vals bs :=
  h.kept fun k h1 h2 => ho.block k h2 fun e => by cases e; omega
/-- One series more. -/
theorem D2.grow {W w w1 w2 : World} {s : ByteArray} {q : Nat} {bb : Bool} {tv bv bv' : Value} {t : List ByteArray} {vals : List (Value × Value)} {p : Value × Value} (h : D2 W w s q bb tv t bv vals) (ha : ∀ k, k < w.heap.size → w1.heap[k]? = w.heap[k]?) (hb1 : Below W.heap.size W w1) (hs1 : w.heap.size ≤ w1.heap.size) (hg : w1.grownBy w2 bv.ownBlock)
    (ho : w2.ownsRow (W.heap.size + 1) 38 2 bv' (vals.length + 1) (serCells vals ++ [p.1, p.2])) : D2 W w2 s q bb tv t bv' (vals ++ [p]) ∧ ∀ done, Sers w (W.heap.size + 1) vals done → Sers w2 (W.heap.size + 1) vals done := by
  have hlt := h.d1.lt
  have hk : ∀ k, k < w.heap.size → some k ≠ bv.ownBlock → w2.heap[k]? = w.heap[k]? := fun k h1 h2 => (hg.block k (by omega) h2).trans (ha k h1)
  refine ⟨⟨⟨below_grownAt hb1 hg (by omega) (fun b e => by have := (World.ownsRow.lt h.own b e).1; omega), Blk.kept h.d1.rdr (hk _ hlt (fun e => by have := (World.ownsRow.lt h.own _ e.symm).1; omega)), ?_, h.d1.hq⟩, ?_⟩, fun done hs => ⟨hs.1, fun i p x hp hx => ?_⟩⟩
  · exact own_kept h.d1.own fun k e => hk k (World.ownsRow.lt h.d1.own k e).2 fun e' => own_types h.d1.own h.own (by decide) k e e'.symm
  · have e : serCells (vals ++ [p]) = serCells vals ++ [p.1, p.2] := serCells_snoc vals p
    rw [e, List.length_append]; exact ho
  · obtain ⟨h1, h2⟩ := hs.2 i p x hp hx
    exact ⟨own_kept h1 fun k e => hk k (World.ownsRow.lt h1 k e).2 fun e' => own_types h1 h.own (by decide) k e e'.symm, own_kept h2 fun k e => hk k (World.ownsRow.lt h2 k e).2 fun e' => own_types h2 h.own (by decide) k e e'.symm⟩
/-- What Decode answers. -/
def DecEnd (W w' : World) (S : ByteArray) (e : Ending) : Prop :=
  (∃ a n c b, e = .returned (.tuple #[.slice a n c, .bool b]) ∧ (b = true → IsFrame S.data.toList ∧ BatchAt w' w'.heap.size (.slice a n c) (got S.data.toList)) ∧ (b = false → ¬ IsFrame S.data.toList)) ∧ Below W.heap.size W w'
theorem decEnd_no {W w' : World} {S : ByteArray} (h : ¬ IsFrame S.data.toList) (hb : Below W.heap.size W w') : DecEnd W w' S (.returned (.tuple #[.slice none 0 0, .bool false])) :=
  ⟨⟨none, 0, 0, false, rfl, (fun e => by cases e), fun _ => h⟩, hb⟩
theorem gQ_none {S : ByteArray} {t : List ByteArray} {k p : Nat} (h : serQ S t p = none) : gQ S t (k + 1) p = none := by rw [gQ, h]
theorem gQ_some {S : ByteArray} {t : List ByteArray} {k p r : Nat} {x : Ser} (h : serQ S t p = some (x, r)) : gQ S t (k + 1) p = (gQ S t k r).map (x :: ·) := by rw [gQ, h]
theorem app_rest {α : Type} {t : List α × Nat × Bool} {done : List α} {r : List α × Nat × Bool} {X : α} {r' : List α × Nat × Bool} (h : t = (done ++ r.1, r.2)) (hr : r = (X :: r'.1, r'.2)) : t = ((done ++ [X]) ++ r'.1, r'.2) := by
  rw [h, hr]; simp

set_option maxRecDepth 100000 in
set_option maxHeartbeats 1000000 in
theorem refDecode_any (W : World) (S : ByteArray) (hS : S.size ≤ 140737488355328) (h0 : 0 < W.heap.size) :
    Calls Tryz.prog 48 #[.string S] W fun e w' => DecEnd W w' S e := by
  obtain ⟨i0, hi0, hx0, hx1, hx2⟩ := info_parts Tryz.infoStr
  obtain ⟨i1, hi1, hy0, hy1, hy2⟩ := info_parts Tryz.infoSer
  go_enter Tryz.func48, Tryz.ntmps48
  by_cases h11 : S.size < 11
  · have HN : Hid (¬ IsFrame S.data.toList) := fun h => by have := h.opens.long; simp at this; omega
    go_wp2
    go_ret2
    exact decEnd_no HN.out (Below.refl _ _)
  · obtain ⟨s, hs⟩ : ∃ s, s = S.extract 0 (S.size - 4) := ⟨_, rfl⟩
    have hsz : s.size = S.size - 4 := by rw [hs, ByteArray.size_extract]; omega
    have hss : s.size ≤ 140737488355328 := by omega
    have hs7 : 7 ≤ s.size := by omega
    obtain ⟨n, p1, b1, e1⟩ : ∃ x y b, vR s 7 false = (x, y, b) := ⟨_, _, _, rfl⟩
    obtain ⟨hn35, hp1⟩ := vR_eq e1 hs7
    have HE1 := hide e1
    have hr0 : Rdr (W.alloc (.cells #[.string s, .int .i64 7, .bool false] 146)) W.heap.size s 7 false := Blk.new W _ _
    have hd0 : D1 W (W.alloc (.cells #[.string s, .int .i64 7, .bool false] 146)) s 7 false (.slice none 0 0) [] := ⟨(Below.refl W.heap.size W).alloc (Nat.le_refl _) _, hr0, World.ownsRow_nil _ _ _ _, hs7⟩
    have HD0 := hide hd0
    have C0 := hide (varint_eq _ W.heap.size s hr0 hs7 hss e1)
    have HSx := hide hs
    rw [hs] at C0
    clear e1 hr0 hd0 hs hsz
    go_wp2_with fail
    rw [← HSx.out] at C0 ⊢
    refine C0.out.mono ?_
    rintro e w1 ⟨rfl, hr1, ho1⟩
    have HD1 := hide (HD0.out.call hr1 ho1 hp1)
    clear hr1 ho1 C0 HD0
    go_wp2
    go_loopw [5, 7, 8, 9] (fun tv iv _ _ wr => ∃ (k q : Nat) (bb : Bool) (done : List ByteArray), k ≤ n ∧ iv = .int .i64 k ∧ done.length ≤ k ∧ Hid (D1 W wr s q bb tv done) ∧ Hid (tQ s n p1 b1 = (done ++ (tQ s (n - k) q bb).1, (tQ s (n - k) q bb).2))) (fun _ i _ _ _ => n - (intOf i).toNat)
    case atStart => exact ⟨0, p1, b1, [], Nat.zero_le _, rfl, Nat.le_refl _, HD1.out, rfl⟩
    case round =>
      obtain ⟨k, q, bb, done, hk, rfl, hdk, HD, HV⟩ := hrel
      clear HD1
      have c2 := Blk.cell HD.out.rdr (i := 2) rfl
      by_cases hgo : k < n ∧ bb = false
      · obtain ⟨hlt, rfl⟩ := hgo
        obtain ⟨z, q1, v1, e2⟩ : ∃ x y b, vR s q false = (x, y, b) := ⟨_, _, _, rfl⟩
        obtain ⟨hz1, hq1⟩ := vR_eq e2 HD.out.hq
        obtain ⟨X, q2, v2, e3⟩ : ∃ x y b, partR s q1 v1 z = (x, y, b) := ⟨_, _, _, rfl⟩
        obtain ⟨hq2, hX, -⟩ := partR_eq e3 hq1
        have HV2 : Hid (tQ s n p1 b1 = ((done ++ [X]) ++ (tQ s (n - (k + 1)) q2 v2).1, (tQ s (n - (k + 1)) q2 v2).2)) := app_rest HV.out (by rw [show n - k = (n - (k + 1)) + 1 by omega]; exact tQ_on e2 e3)
        have C1 := hide (varint_eq wr W.heap.size s HD.out.rdr HD.out.hq hss e2)
        have HE3 := hide e3
        clear e2 e3 HV
        go_wp2_with fail
        refine C1.out.mono ?_
        rintro e w3 ⟨rfl, hr3, ho3⟩
        have HD3 := hide (HD.out.call hr3 ho3 hq1)
        have C2 := hide (part_eq w3 W.heap.size s hr3 hq1 hss hz1 HE3.out)
        clear hr3 ho3 C1 HD c2 HE3
        go_wp2_with fail
        refine C2.out.mono ?_
        rintro e w4 ⟨rfl, hr4, ho4⟩
        have HD4 := hide (HD3.out.call hr4 ho4 hq2)
        clear hr4 ho4 C2 HD3
        obtain ⟨ta, tc, rfl⟩ := own_shape HD4.out.own
        have hlt4 := HD4.out.lt
        go_wp2_with (first | (at_builtin; refine wpList_append_heir _ rfl (.tmp 44) (.tmp 46) 22 rfl (W.heap.size + 1) 9 i0 (.string ByteArray.empty) 1 16 Tryz.underlying22 hi0 hx0 hx1 hx2 rfl (by decide) _ done.length (Strs done) rfl (own_alloc HD4.out.own _) ⟨w4.heap.size, 0, none⟩ 1 1 [.string X] rfl rfl (one_news _ _ _) (one_cell _) (by unfold maxLen; omega) (by omega) (by simp; omega) ?_) | fail)
        intro v5 w5 ho5 hg5 hh5
        have HD5 : Hid (D1 W w5 s q2 v2 v5 (done ++ [X])) := HD4.out.grow (fun k hk => heap_alloc_old w4 _ hk) (HD4.out.below.alloc (by omega) _) (by simp) hg5 ho5
        clear ho5 hg5 hh5 HD4
        go_wp2
        go_roundw
        case rel => exact ⟨k + 1, q2, v2, done ++ [X], by omega, by go_num, by simp; omega, HD5.out, HV2.out⟩
        case measure => simp [intOf]; omega
      · have HT : Hid (tQ s n p1 b1 = (done, q, bb)) := by
          show _ = _
          rw [HV.out]
          cases bb with
          | true => rw [tQ_bad]; simp
          | false => rw [show n - k = 0 by have : ¬ k < n := fun h => hgo ⟨h, rfl⟩; omega, tQ_zero]; simp
        obtain ⟨m, q1, v1, e2⟩ : ∃ x y b, vR s q bb = (x, y, b) := ⟨_, _, _, rfl⟩
        obtain ⟨hm35, hq1⟩ := vR_eq e2 HD.out.hq
        have C1 := hide (varint_eq wr W.heap.size s HD.out.rdr HD.out.hq hss e2)
        have HE2 := hide e2
        have HBB : Hid (k < n → bb = true) := fun h => by
          cases bb with
          | true => rfl
          | false => exact absurd ⟨h, rfl⟩ hgo
        clear e2 HV hgo
        by_cases hlt : k < n
        · have hbb := HBB.out hlt
          subst hbb
          have hme : (m, q1, v1) = (0, q, true) := HE2.out.symm.trans (vR_bad s q)
          cases hme
          have HNF : Hid (¬ IsFrame S.data.toList) := dec_none (by rw [← HSx.out]; exact decQ_bad HE1.out HT.out HE2.out (.inl rfl))
          clear HBB
          go_wp2_with fail
          refine C1.out.mono ?_
          rintro e w3 ⟨rfl, hr3, ho3⟩
          have HD3 := hide (HD.out.call hr3 ho3 hq1)
          have HBT := hide HD3.out.below
          have c2' := Blk.cell HD3.out.rdr (i := 2) rfl
          clear hr3 ho3 C1 HD c2
          go_wp2
          go_loopw [10, 11, 12] (fun bv iv _ wr2 => bv = .slice none 0 0 ∧ iv = .int .i64 0 ∧ w3 = wr2) (fun _ _ _ _ => 0)
          case atStart => exact ⟨rfl, rfl, rfl⟩
          case round =>
            obtain ⟨rfl, rfl, rfl⟩ := hrel
            go_wp2
            go_ret2
            exact decEnd_no HNF.out HBT.out
        · clear HBB c2
          go_wp2_with fail
          refine C1.out.mono ?_
          rintro e w3 ⟨rfl, hr3, ho3⟩
          have HD3 := hide (HD.out.call hr3 ho3 hq1)
          clear hr3 ho3 C1 HD
          by_cases h8 : 8 < m
          · have HNF : Hid (¬ IsFrame S.data.toList) := dec_none (by rw [← HSx.out]; exact decQ_bad HE1.out HT.out HE2.out (.inr h8))
            have c2 := Blk.cell HD3.out.rdr (i := 2) rfl
            have f2 := Blk.frozen HD3.out.rdr 2
            have hr4 : Rdr (w3.setCell ⟨W.heap.size, 2, none⟩ (.bool true)) W.heap.size s q1 true := Blk.set HD3.out.rdr 2 (.bool true)
            have HBT := hide (below_only HD3.out.below (Only.set w3 W.heap.size 2 (.bool true)) (Nat.le_refl _))
            have c3 := Blk.cell hr4 (i := 2) rfl
            clear hr4 HD3
            go_wp2
            go_loopw [10, 11, 12] (fun bv iv _ wr2 => bv = .slice none 0 0 ∧ iv = .int .i64 0 ∧ (w3.setCell ⟨W.heap.size, 2, none⟩ (.bool true)) = wr2) (fun _ _ _ _ => 0)
            case atStart => exact ⟨rfl, rfl, rfl⟩
            case round =>
              obtain ⟨rfl, rfl, rfl⟩ := hrel
              go_wp2
              go_ret2
              exact decEnd_no HNF.out HBT.out
          · cases v1 with
            | true =>
              have HNF : Hid (¬ IsFrame S.data.toList) := dec_none (by rw [← HSx.out]; exact decQ_bad HE1.out HT.out HE2.out (.inl rfl))
              have c2 := Blk.cell HD3.out.rdr (i := 2) rfl
              have HBT := hide HD3.out.below
              clear HD3
              go_wp2
              go_loopw [10, 11, 12] (fun bv iv _ wr2 => bv = .slice none 0 0 ∧ iv = .int .i64 0 ∧ w3 = wr2) (fun _ _ _ _ => 0)
              case atStart => exact ⟨rfl, rfl, rfl⟩
              case round =>
                obtain ⟨rfl, rfl, rfl⟩ := hrel
                by_cases hm0 : 0 < m
                · go_wp2
                  go_ret2
                  exact decEnd_no HNF.out HBT.out
                · go_wp2
                  go_ret2
                  exact decEnd_no HNF.out HBT.out
            | false =>
              have HQ : Hid (decQ s = gQ s done m q1) := decQ_good HE1.out HT.out HE2.out h8
              have HSmall : Hid (∀ ds, decQ s = some ds → ds.length ≤ 8 ∧ ∀ x ∈ ds, x.1.length ≤ 4 ∧ x.2.length ≤ 40 ∧ Rng x.2) := fun ds h => by
                rw [HQ.out] at h
                obtain ⟨h1, h2⟩ := gQ_small s done m q1 ds h
                exact ⟨by omega, h2⟩
              clear HE1 HE2 HT
              have HD4 : Hid (D2 W w3 s q1 false u5 done (.slice none 0 0) []) := ⟨HD3.out, World.ownsRow_nil _ _ _ _⟩
              clear HD3
              go_wp2
              go_loopw [10, 11, 12] (fun bv iv _ wr => ∃ (k q : Nat) (bb : Bool) (vals : List (Value × Value)), k ≤ m ∧ iv = .int .i64 k ∧ vals.length ≤ k ∧ Hid (D2 W wr s q bb u5 done bv vals) ∧ Hid ((bb = true ∧ decQ s = none) ∨ (bb = false ∧ ∃ ds, Sers wr (W.heap.size + 1) vals ds ∧ decQ s = (gQ s done (m - k) q).map (ds ++ ·)))) (fun _ i _ _ => m - (intOf i).toNat)
              case atStart => exact ⟨0, q1, false, [], Nat.zero_le _, rfl, Nat.le_refl _, HD4.out, .inr ⟨rfl, [], Sers.nil _ _, by rw [HQ.out]; simp⟩⟩
              case round =>
                clear HD4 HQ
                generalize wr = W0 at *
                obtain ⟨j, q2, v2, vals, hj, rfl, hvl, HD, HV⟩ := hrel
                have c2 := Blk.cell HD.out.d1.rdr (i := 2) rfl
                cases v2 with
                | true =>
                  have hdn : decQ s = none := by
                    rcases HV.out with ⟨_, h⟩ | ⟨h, _⟩
                    · exact h
                    · cases h
                  have HNF : Hid (¬ IsFrame S.data.toList) := dec_none (by rw [← HSx.out]; exact hdn)
                  have HBT := hide HD.out.d1.below
                  clear HV HD hdn
                  by_cases hjm : j < m
                  · go_wp2
                    go_ret2
                    exact decEnd_no HNF.out HBT.out
                  · go_wp2
                    go_ret2
                    exact decEnd_no HNF.out HBT.out
                | false =>
                  have hds : ∃ ds, Sers W0 (W.heap.size + 1) vals ds ∧ decQ s = (gQ s done (m - j) q2).map (ds ++ ·) := by
                    rcases HV.out with ⟨h, _⟩ | ⟨_, h⟩
                    · cases h
                    · exact h
                  obtain ⟨ds, hsr, hdq⟩ := hds
                  have HSr := hide hsr
                  have HDq := hide hdq
                  clear HV hsr hdq
                  by_cases hjm : j < m
                  · obtain ⟨tb, htx, htb, htc⟩ := texts_at HD.out.d1.own (by have := HD.out.d1.lt; omega)
                    have C3 := hide (series_any W0 W.heap.size s q2 tb _ done HD.out.d1.rdr HD.out.d1.hq hss htx htb (by omega))
                    obtain ⟨ta, tc, rfl⟩ := own_shape HD.out.d1.own
                    clear htx htb htc
                    go_wp2_with fail
                    refine C3.out.mono ?_
                    rintro e w5 ⟨a0, n0, c0, a1, n1, c1, q5, v5, rfl, hr5, hq5, ho5, hno5, hso5⟩
                    have HD5 := hide (HD.out.call hr5 ho5 hq5)
                    have HSr5 := hide (sers_only HSr.out ho5 (Nat.lt_succ_self _))
                    have HNo := hide hno5
                    have HSo := hide hso5
                    have hw05 := HD.out.d1.lt
                    clear hr5 ho5 hno5 hso5 C3 HD HSr c2
                    have hlt5 := HD5.out.d1.lt
                    obtain ⟨ba, bc, rfl⟩ := own_shape HD5.out.own
                    go_wp2_with (first | (at_builtin; refine wpList_append_heir _ rfl (.tmp 70) (.tmp 72) 39 rfl (W.heap.size + 1) 38 i1 (.agg #[.slice none 0 0, .slice none 0 0]) 2 48 Tryz.underlying39 hi1 hy0 hy1 hy2 rfl (by decide) _ vals.length (serCells vals) rfl (own_alloc (own_alloc HD5.out.own _) _) ⟨w5.heap.size + 1, 0, none⟩ 1 1 [.slice a0 n0 c0, .slice a1 n1 c1] rfl rfl (by have := cells_new (w5.alloc (.cells #[.slice a0 n0 c0, .slice a1 n1 c1] 38)) [.slice a0 n0 c0, .slice a1 n1 c1] 38; simpa using this) (one_two rfl rfl) (by unfold maxLen; omega) (by omega) (by simp; omega) ?_) | fail)
                    intro v6 w6 ho6 hg6 hh6
                    have HD6 := hide (HD5.out.grow (p := (.slice a0 n0 c0, .slice a1 n1 c1)) (fun k hk => (heap_alloc_old _ _ (by simp; omega)).trans (heap_alloc_old w5 _ hk)) ((HD5.out.d1.below.alloc (by omega) _).alloc (by simp; omega) _) (by simp; omega) hg6 ho6)
                    have HS6 : Hid (∀ x, w5.ownsRow W0.heap.size 80 2 (.slice a0 n0 c0) x.1.length (labCells x.1) → w5.ownsRow W0.heap.size 34 2 (.slice a1 n1 c1) x.2.length (samCells x.2) → Sers w6 (W.heap.size + 1) (vals ++ [(.slice a0 n0 c0, .slice a1 n1 c1)]) (ds ++ [x])) := fun x h1 h2 => by
                      have hk : ∀ q, q < w5.heap.size → some q ≠ (Value.slice ba vals.length bc).ownBlock → w6.heap[q]? = w5.heap[q]? := fun q hq hne => (hg6.block q (by simp; omega) hne).trans ((heap_alloc_old _ _ (by simp; omega)).trans (heap_alloc_old w5 _ hq))
                      exact (HD6.out.2 ds HSr5.out).snoc (own_mono (own_kept h1 fun q e => hk q (World.ownsRow.lt h1 q e).2 fun e' => own_types h1 HD5.out.own (by decide) q e e'.symm) (by omega)) (own_mono (own_kept h2 fun q e => hk q (World.ownsRow.lt h2 q e).2 fun e' => own_types h2 HD5.out.own (by decide) q e e'.symm) (by omega))
                    have HV6 : Hid ((v5 = true ∧ decQ s = none) ∨ (v5 = false ∧ ∃ ds', Sers w6 (W.heap.size + 1) (vals ++ [(.slice a0 n0 c0, .slice a1 n1 c1)]) ds' ∧ decQ s = (gQ s done (m - (j + 1)) q5).map (ds' ++ ·))) := by
                      have hmj : m - j = (m - (j + 1)) + 1 := by omega
                      cases hs : serQ s done q2 with
                      | none =>
                        exact .inl ⟨HNo.out hs, by rw [HDq.out, hmj, gQ_none hs]; rfl⟩
                      | some r =>
                        obtain ⟨x, r1⟩ := r
                        obtain ⟨h1, h2, h3, h4⟩ := HSo.out x r1 hs
                        rw [h2]
                        exact .inr ⟨h1, ds ++ [x], HS6.out x h3 h4, by rw [HDq.out, hmj, gQ_some hs, map_app]⟩
                    have HD7 := hide HD6.out.1
                    clear ho6 hg6 hh6 HD6 HD5 HS6 HSr5 HNo HSo HDq
                    go_wp2
                    go_roundw
                    case rel => exact ⟨j + 1, q5, v5, _, by omega, by go_num, by simp; omega, HD7.out, HV6.out⟩
                    case measure => simp [intOf]; omega
                  · obtain rfl : j = m := by omega
                    have HDs : Hid (decQ s = some ds) := by
                      show _ = _
                      rw [HDq.out, Nat.sub_self, gQ]; simp
                    have hsm : ds.length ≤ 8 ∧ ∀ x ∈ ds, x.1.length ≤ 4 ∧ x.2.length ≤ 40 ∧ Rng x.2 := HSmall.out ds HDs.out
                    have hvd : vals.length = ds.length := HSr.out.1
                    have hF : Fresh W0 (W.heap.size + 1) u10 ds := ⟨vals, by rw [← hvd]; exact HD.out.own, HSr.out⟩
                    have hbt := hF.batchAt (fun x hx => (hsm.2 x hx).2.2)
                    have C4 := hide (refEncode_any W0.heap.size _ ds W0 hbt (Nat.le_refl _) ⟨by omega, fun x hx => by have := (hsm.2 x hx).1; omega, fun x hx => by have := (hsm.2 x hx).2.1; omega⟩)
                    have HR : Hid (InRange ds) := fun x hx => (hsm.2 x hx).2.2
                    have HBt := hide hbt
                    have HB := hide HD.out.d1.below
                    have hlt0 := HD.out.d1.lt
                    obtain ⟨ba, bc, rfl⟩ := own_shape HD.out.own
                    clear HDq HSr hF hbt hvd hsm HD
                    go_wp2_with fail
                    refine C4.out.mono ?_
                    rintro e w6 ⟨⟨cn, hcn, rfl⟩, hb6⟩
                    have HCn := hide hcn
                    have HBt6 : Hid (BatchAt w6 w6.heap.size (.slice ba vals.length bc) ds) := batch_on HBt.out hb6
                    have HB6 := hide (HB.out.trans (hb6.mono (by omega)))
                    clear hb6 C4 HBt HB
                    rcases hcn with ⟨rfl, _⟩ | ⟨rfl, _⟩ | ⟨rfl, _⟩
                    · have HNF : Hid (¬ IsFrame S.data.toList) := dec_no (by rw [← HSx.out]; exact HDs.out) HCn.out (.inl (by omega))
                      clear HCn
                      go_wp2
                      go_ret2
                      exact ⟨⟨_, _, _, false, rfl, (fun e => by cases e), fun _ => HNF.out⟩, HB6.out⟩
                    · have HNF : Hid (¬ IsFrame S.data.toList) := dec_no (by rw [← HSx.out]; exact HDs.out) HCn.out (.inl (by omega))
                      clear HCn
                      go_wp2
                      go_ret2
                      exact ⟨⟨_, _, _, false, rfl, (fun e => by cases e), fun _ => HNF.out⟩, HB6.out⟩
                    · by_cases hfr : (⟨(frameOf (payload ds)).toArray⟩ : ByteArray) = S
                      · have HF : Hid (IsFrame S.data.toList ∧ got S.data.toList = ds) := dec_frame HCn.out HR.out hfr
                        have hse := str_eq hfr
                        clear HCn
                        generalize (⟨(frameOf (payload ds)).toArray⟩ : ByteArray) = fb at *
                        have Hfr := hide hfr
                        clear hfr
                        go_wp2
                        go_ret2
                        exact ⟨⟨_, _, _, true, rfl, (fun _ => ⟨HF.out.1, by rw [HF.out.2]; exact HBt6.out⟩), fun e => by cases e⟩, HB6.out⟩
                      · have HNF : Hid (¬ IsFrame S.data.toList) := dec_no (by rw [← HSx.out]; exact HDs.out) HCn.out (.inr hfr)
                        have hse := str_ne hfr
                        clear HCn
                        generalize (⟨(frameOf (payload ds)).toArray⟩ : ByteArray) = fb at *
                        have Hfr := hide hfr
                        clear hfr
                        go_wp2
                        go_ret2
                        exact ⟨⟨_, _, _, false, rfl, (fun e => by cases e), fun _ => HNF.out⟩, HB6.out⟩
end Go.Proofs.YtamcclcbmenjdaaGreatDoor

/- The reference: Read. -/
namespace Go.Proofs.YtamcclcbmenjdaaGreatDoor
open Go.RowKit Go.Lib

set_option maxRecDepth 100000 in
set_option maxHeartbeats 1000000 in
theorem refRead_any (W : World) (S : ByteArray) (hS : S.size ≤ 140737488355328) (h0 : 0 < W.heap.size) :
    Calls Tryz.prog 35 #[.string S] W fun e w' => ((IsFrame S.data.toList ∧ ∃ a n c, e = .returned (.tuple #[.slice a n c, .int .i64 0]) ∧ BatchAt w' w'.heap.size (.slice a n c) (got S.data.toList)) ∨ (¬ IsFrame S.data.toList ∧ e = .returned (.tuple #[.slice none 0 0, .int .i64 3]))) ∧ Below W.heap.size W w' := by
  have C := hide (refDecode_any W S hS h0)
  go_enter Tryz.func35, Tryz.ntmps35
  go_wp2_with fail
  refine C.out.mono ?_
  rintro e w1 ⟨⟨a, n, c, b, rfl, hy, hno⟩, hb⟩
  have HB := hide hb
  cases b with
  | true =>
    have HY := hide (hy rfl)
    clear hy hno hb C
    go_wp2
    go_ret2
    exact ⟨.inl ⟨HY.out.1, _, _, _, rfl, HY.out.2⟩, HB.out⟩
  | false =>
    have HN := hide (hno rfl)
    clear hy hno hb C
    go_wp2
    go_ret2
    exact ⟨.inr ⟨HN.out, rfl⟩, HB.out⟩
end Go.Proofs.YtamcclcbmenjdaaGreatDoor

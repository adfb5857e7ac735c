/- 'choirlaw.Reads', for any list of texts of bulk at most 1048576: Decode answers the document's batch or error, one behind the other; lists that came out are their owner's own. The second form's statement and its card: its only condition is the row's own bound on the argument's bulk. -/
import Derived.Test.YtamcclcbmenjdaaGreatDoorReadsuptoG16
import Derived.Deep.QuietTactic
/- The reference's reader of bytes: part. -/
namespace Go.Proofs.YtamcclcbmenjdaaGreatDoor
open Go.RowKit Go.Lib

/-- The reader's struct in block rb. -/
def Rdr (w : World) (rb : Nat) (S : ByteArray) (at' : Nat) (bad : Bool) : Prop := Blk w rb 146 [.string S, .int .i64 at', .bool bad]
/-- What part answers: the bytes, where the reader is then, whether it is bad. -/
def partR (S : ByteArray) (at' : Nat) (bad : Bool) (n : Int) : ByteArray × Nat × Bool :=
  if bad = true ∨ n < 0 ∨ (S.size : Int) < (at' : Int) + n then (ByteArray.empty, at', true) else (S.extract at' (at' + n.toNat), at' + n.toNat, false)
/-- But for block rb nothing has turned. -/
def Only (w w' : World) (rb : Nat) : Prop := w.grownBy w' (some rb)

set_option maxRecDepth 100000 in
set_option maxHeartbeats 1000000 in
theorem part_any (w : World) (rb : Nat) (S : ByteArray) (at' : Nat) (bad : Bool) (n : Int) (h : Rdr w rb S at' bad) (ha : at' ≤ S.size) (hS : S.size ≤ 140737488355328) (hn1 : -9223372036854775808 ≤ n) (hn2 : n ≤ 4611686018427387904) :
    Calls Tryz.prog 86 #[.pointer (some ⟨rb, 0, none⟩), .int .i64 n] w fun e w' => e = .returned (.string (partR S at' bad n).1) ∧ Rdr w' rb S (partR S at' bad n).2.1 (partR S at' bad n).2.2 ∧ Only w w' rb := by
  have c0 := h.cell (i := 0) rfl
  have c1 := h.cell (i := 1) rfl
  have c2 := h.cell (i := 2) rfl
  have f1 := h.frozen 1
  have f2 := h.frozen 2
  have H := hide h
  clear h
  go_enter Tryz.func86, Tryz.ntmps86
  have HBad : Hid (∀ (q : Nat), Rdr ((w.drewN q).setCell ⟨rb, 2, none⟩ (.bool true)) rb S at' true ∧ Only w ((w.drewN q).setCell ⟨rb, 2, none⟩ (.bool true)) rb) := fun q => ⟨(H.out.drewN q).set 2 (.bool true), ⟨rfl, rfl, rfl, by simp, fun k _ hne => Below.heap_setCell (w.drewN q) ⟨rb, 2, none⟩ (.bool true) k (fun e => hne (by rw [e]))⟩⟩
  cases bad with
  | true =>
    have HE : Hid (partR S at' true n = (ByteArray.empty, at', true)) := if_pos (.inl rfl)
    go_wp2
    go_quiet (fail)
    go_wp2
    go_ret
    rw [HE.out]
    exact ⟨rfl, HBad.out _⟩
  | false =>
    by_cases hneg : n < 0
    · have HE : Hid (partR S at' false n = (ByteArray.empty, at', true)) := if_pos (.inr (.inl hneg))
      go_wp2
      go_quiet (fail)
      go_wp2
      go_ret
      rw [HE.out]
      exact ⟨rfl, HBad.out _⟩
    · have hd : decide (n < 0) = false := decide_eq_false hneg
      have hw1 : IntKind.i64.wrap ((at' : Int) + n) = (at' : Int) + n := by rw [IntKind.wrap_i64]; omega
      by_cases hbig : (S.size : Int) < (at' : Int) + n
      · have HE : Hid (partR S at' false n = (ByteArray.empty, at', true)) := if_pos (.inr (.inr hbig))
        go_wp2
        go_quiet (fail)
        go_wp2
        go_ret
        rw [HE.out]
        exact ⟨rfl, HBad.out _⟩
      · obtain ⟨m, rfl⟩ : ∃ m : Nat, n = m := ⟨n.toNat, by omega⟩
        have hd2 : decide ((S.size : Int) < (at' : Int) + (m : Int)) = false := decide_eq_false hbig
        have HE : Hid (partR S at' false m = (S.extract at' (at' + m), at' + m, false)) := by
          show partR S at' false m = _
          unfold partR
          rw [if_neg (by simp; omega)]; rfl
        have HX : Hid (∀ (q : Nat), Rdr ((w.drewN q).setCell ⟨rb, 1, none⟩ (.int .i64 ((at' : Int) + (m : Int)))) rb S (at' + m) false ∧ Only w ((w.drewN q).setCell ⟨rb, 1, none⟩ (.int .i64 ((at' : Int) + (m : Int)))) rb) := fun q => ⟨(H.out.drewN q).set 1 (.int .i64 ((at' : Int) + (m : Int))), ⟨rfl, rfl, rfl, by simp, fun k _ hne => Below.heap_setCell (w.drewN q) ⟨rb, 1, none⟩ (.int .i64 ((at' : Int) + (m : Int))) k (fun e => hne (by rw [e]))⟩⟩
        have hsub : (at' : Int) + (m : Int) - (m : Int) = (at' : Int) := by omega
        go_wp2
        go_quiet (fail)
        have hx := HX.out nq
        have HXn := hide hx
        have k0 := hx.1.cell (i := 0) rfl
        have k1 : ((w.drewN nq).setCell ⟨rb, 1, none⟩ (.int .i64 ((at' : Int) + (m : Int)))).cell? ⟨rb, 1, none⟩ = some (.int .i64 ((at' : Int) + (m : Int))) := hx.1.cell (i := 1) rfl
        clear hx
        go_wp2
        go_quiet (fail)
        go_wp2
        go_ret
        rw [HE.out]
        exact ⟨rfl, Blk.drewN HXn.out.1 nq, ⟨HXn.out.2.os, HXn.out.2.tape, HXn.out.2.output, HXn.out.2.size, HXn.out.2.block⟩⟩
end Go.Proofs.YtamcclcbmenjdaaGreatDoor

/- The reference's reader of bytes: varint (its answer; the walk is to come). -/
namespace Go.Proofs.YtamcclcbmenjdaaGreatDoor
open Go.RowKit Go.Lib

/-- A byte of a text. -/
def byteAt (S : ByteArray) (k : Nat) : Nat := (S.data.toList.getD k 0).toNat
/-- A packed number, of at most k bytes more. -/
def vGo (S : ByteArray) : Nat → Nat → Bool → Nat → Nat → Nat × Nat × Bool
  | 0, at', _, _, _ => (0, at', true)
  | k + 1, at', bad, n, f =>
    if bad = true ∨ S.size < at' + 1 then (0, at', true)
    else if byteAt S at' < 128 then (n + f * (byteAt S at' % 128), at' + 1, false)
    else vGo S k (at' + 1) false (n + f * (byteAt S at' % 128)) (f * 128)
def vR (S : ByteArray) (at' : Nat) (bad : Bool) : Nat × Nat × Bool := vGo S 5 at' bad 0 1
theorem Only.refl (w : World) (rb : Nat) : Only w w rb := ⟨rfl, rfl, rfl, Nat.le_refl _, fun _ _ _ => rfl⟩
theorem Only.trans {w w1 w2 : World} {rb : Nat} (h : Only w w1 rb) (g : Only w1 w2 rb) : Only w w2 rb :=
  ⟨g.os.trans h.os, g.tape.trans h.tape, g.output.trans h.output, Nat.le_trans h.size g.size, fun k hk hne => (g.block k (Nat.lt_of_lt_of_le hk h.size) hne).trans (h.block k hk hne)⟩
theorem vGo_at (S : ByteArray) : ∀ (k at' : Nat) (bad : Bool) (n f : Nat), at' ≤ S.size → (vGo S k at' bad n f).2.1 ≤ S.size
  | 0, at', _, _, _, h => h
  | k + 1, at', bad, n, f, h => by
    unfold vGo
    split
    · exact h
    · split
      · simp only; omega
      · exact vGo_at S k _ _ _ _ (by omega)
theorem partR_bad {S : ByteArray} {at' : Nat} {bad : Bool} (h : bad = true ∨ S.size < at' + 1) : partR S at' bad 1 = (ByteArray.empty, at', true) := by
  unfold partR
  rw [if_pos]
  rcases h with h | h
  · exact .inl h
  · exact .inr (.inr (by omega))
theorem partR_one {S : ByteArray} {at' : Nat} {bad : Bool} (h : ¬ (bad = true ∨ S.size < at' + 1)) : partR S at' bad 1 = (S.extract at' (at' + 1), at' + 1, false) := by
  unfold partR
  rw [if_neg]
  · rfl
  · rintro (h1 | h1 | h1)
    · exact h (.inl h1)
    · omega
    · exact h (.inr (by omega))

theorem byte_first {S : ByteArray} {a : Nat} (h : a + 1 ≤ S.size) (hp : 0 < (S.extract a (a + 1)).size) : ((S.extract a (a + 1))[0]'hp).toNat = byteAt S a := by
  unfold byteAt
  rw [List.getD_eq_getElem?_getD, List.getElem?_eq_getElem (by simp; omega), ByteArray.getElem_extract]
  rfl
theorem byteAt_lt (S : ByteArray) (a : Nat) : byteAt S a < 256 := UInt8.toNat_lt _
theorem vnum {n f B : Nat} (hn : n < f) (hf : f ≤ 34359738368) (hB : B < 256) : wrap64 ((n : Int) + wrap64 ((f : Int) * (wrap64 (B : Int)).tmod 128)) = ((n + f * (B % 128) : Nat) : Int) := by
  have h1 : wrap64 (B : Int) = (B : Int) := by unfold wrap64; omega
  have h2 : (B : Int).tmod 128 = ((B % 128 : Nat) : Int) := by rw [Int.tmod_eq_emod_of_nonneg (by omega)]; omega
  have h3 : f * (B % 128) ≤ 34359738368 * 127 := Nat.mul_le_mul hf (by omega)
  have h4 : (f : Int) * ((B % 128 : Nat) : Int) = ((f * (B % 128) : Nat) : Int) := by simp
  rw [h1, h2, h4]
  generalize f * (B % 128) = x at *
  have h5 : wrap64 (x : Int) = (x : Int) := by unfold wrap64; omega
  rw [h5]
  unfold wrap64; omega

end Go.Proofs.YtamcclcbmenjdaaGreatDoor

/- What the reference's readers make of bytes, as functions; what is packed is read again: pure. -/
namespace Go.Proofs.YtamcclcbmenjdaaGreatDoor

/-- The next w bits as a number, where the row is then, whether it is bad (1). -/
def bR (s : ByteArray) (pos st w : Nat) : Nat × Nat × Nat := if 8 * s.size < pos + w then (0, 8 * s.size, 1) else (valTo s.data.toList pos w, pos + w, st)
/-- Bits 1 up to the first 0, at most k. -/
def oR (s : ByteArray) : Nat → Nat → Nat → Nat × Nat × Nat
  | 0, pos, st => (0, pos, st)
  | k + 1, pos, st => if (bR s pos st 1).1 = 0 then (0, (bR s pos st 1).2) else ((oR s k (bR s pos st 1).2.1 (bR s pos st 1).2.2).1 + 1, (oR s k (bR s pos st 1).2.1 (bR s pos st 1).2.2).2)
/-- A difference of differences. -/
def dR (s : ByteArray) (pos st : Nat) : Nat × Nat × Nat :=
  (sub64 (bR s (oR s 4 pos st).2.1 (oR s 4 pos st).2.2 (stepWidth (oR s 4 pos st).1)).1 (stepShift (oR s 4 pos st).1), (bR s (oR s 4 pos st).2.1 (oR s 4 pos st).2.2 (stepWidth (oR s 4 pos st).1)).2)
def timeQ (s : ByteArray) (u : US) : US := { u with pos := (dR s u.pos u.st).2.1, st := (dR s u.pos u.st).2.2, d := add64 u.d (dR s u.pos u.st).1, t := add64 u.t (add64 u.d (dR s u.pos u.st).1) }
/-- A new window. -/
def winQ (s : ByteArray) (u : US) : US := { u with pos := (bR s (bR s u.pos u.st 5).2.1 (bR s u.pos u.st 5).2.2 6).2.1, st := (bR s (bR s u.pos u.st 5).2.1 (bR s u.pos u.st 5).2.2 6).2.2, a := (bR s u.pos u.st 5).1, z := (bR s (bR s u.pos u.st 5).2.1 (bR s u.pos u.st 5).2.2 6).1 + 1 }
/-- Bits by the window that is there. -/
def inQ (s : ByteArray) (u : US) : Option US :=
  if u.z = 0 ∨ 64 < u.a + u.z then none else some { u with pos := (bR s u.pos u.st u.z).2.1, st := (bR s u.pos u.st u.z).2.2, b := u.b ^^^ ((bR s u.pos u.st u.z).1 * 2 ^ (64 - u.a - u.z)) }
/-- One bit more. -/
def oneQ (s : ByteArray) (u : US) : US := { u with pos := (bR s u.pos u.st 1).2.1, st := (bR s u.pos u.st 1).2.2 }
def bitQ (s : ByteArray) (u : US) : Option US :=
  if (bR s u.pos u.st 1).1 = 1 then (if (bR s (oneQ s u).pos (oneQ s u).st 1).1 = 1 then inQ s (winQ s (oneQ s (oneQ s u))) else inQ s (oneQ s (oneQ s u))) else some (oneQ s u)
/-- n samples more. -/
def goQ (s : ByteArray) : Nat → US → Option (List (Int × Nat))
  | 0, u => if u.st = 0 then some [] else none
  | k + 1, u => if u.st = 0 then (match bitQ s (timeQ s u) with | none => none | some v => (goQ s k v).map (samU v :: ·)) else none
def firstQ (s : ByteArray) : US := ⟨(bR s (bR s 0 0 64).2.1 (bR s 0 0 64).2.2 64).2.1, (bR s (bR s 0 0 64).2.1 (bR s 0 0 64).2.2 64).2.2, (bR s 0 0 64).1, 0, (bR s (bR s 0 0 64).2.1 (bR s 0 0 64).2.2 64).1, 0, 0⟩
def samplesQ (s : ByteArray) (n : Nat) : Option (List (Int × Nat)) := if n < 1 ∨ 40 < n ∨ s.size < 16 then none else (goQ s (n - 1) (firstQ s)).map (samU (firstQ s) :: ·)

theorem bR_packed (A C : List Bool) (n w st : Nat) : bR (packed (A ++ (Pl.bitsOf n w ++ C))) A.length st w = (n % 2 ^ w, A.length + w, st) := by
  have h := tk_packed A C n w st
  have hl : (A ++ (Pl.bitsOf n w ++ C)).length = A.length + w + C.length := by simp [Pl.bitsOf_length]; omega
  unfold tk at h
  rw [packed_size, if_neg (by omega)] at h
  unfold bR
  rw [packed_size, if_neg (by omega)]
  exact h
theorem bR_one (A C : List Bool) (b : Bool) (st : Nat) : bR (packed (A ++ b :: C)) A.length st 1 = (b.toNat, A.length + 1, st) := by
  have h := bR_packed A C b.toNat 1 st
  have e : Pl.bitsOf b.toNat 1 ++ C = b :: C := by cases b <;> rfl
  rw [e] at h
  rw [h]
  cases b <;> rfl
theorem oR_packed (v last st : Nat) (C : List Bool) (hv : v ≤ last) : ∀ A : List Bool, oR (packed (A ++ (markOf v last ++ C))) last A.length st = (v, A.length + (markOf v last).length, st) := by
  induction v generalizing last with
  | zero =>
    intro A
    cases last with
    | zero => simp [oR, markOf]
    | succ r =>
      have e : A ++ (markOf 0 (r + 1) ++ C) = A ++ false :: C := by simp [markOf]
      rw [e, oR, bR_one]
      simp [markOf]
  | succ v ih =>
    intro A
    cases last with
    | zero => omega
    | succ r =>
      have e : A ++ (markOf (v + 1) (r + 1) ++ C) = A ++ true :: (markOf v r ++ C) := by
        simp [markOf, List.replicate_succ]
      have e2 : A ++ true :: (markOf v r ++ C) = (A ++ [true]) ++ (markOf v r ++ C) := by simp
      rw [e, oR, bR_one, if_neg (by simp)]
      have h := ih r (by omega) (A ++ [true])
      rw [← e2, show (A ++ [true]).length = A.length + 1 by simp] at h
      simp only [h]
      have e3 : (markOf (v + 1) (r + 1)).length = (markOf v r).length + 1 := by
        simp [markOf, List.replicate_succ]
      rw [e3]
      simp only [Prod.mk.injEq, true_and, and_true]
      omega
theorem dR_step (A C : List Bool) (e st : Nat) (he : e < 18446744073709551616) :
    dR (packed (A ++ ((markOf (stepWay e) 4 ++ Pl.bitsOf (add64 e (stepShift (stepWay e))) (stepWidth (stepWay e))) ++ C))) A.length st = (e, A.length + (markOf (stepWay e) 4 ++ Pl.bitsOf (add64 e (stepShift (stepWay e))) (stepWidth (stepWay e))).length, st) := by
  have hw := way_width e
  have hs := sub_add64 e (stepShift (stepWay e)) he (stepShift_lt _)
  have hle := stepWay_le e
  generalize add64 e (stepShift (stepWay e)) = x at *
  generalize stepWay e = k at *
  have hk := oR_packed k 4 st (Pl.bitsOf x (stepWidth k) ++ C) hle A
  have ht := bR_packed (A ++ markOf k 4) C x (stepWidth k) st
  rw [List.append_assoc] at ht
  unfold dR
  rw [List.append_assoc, hk]
  simp only
  rw [← List.length_append, ht]
  simp only
  rw [hw, hs]
  simp only [List.length_append, Pl.bitsOf_length, Nat.add_assoc]
theorem timeQ_of (A C : List Bool) (u : US) (time : Nat) (hp : u.pos = A.length) (ht : u.t < 18446744073709551616) (hd : u.d < 18446744073709551616) (hm : time < 18446744073709551616) :
    timeQ (packed (A ++ (timeBits u.t u.d time ++ C))) u = { u with pos := A.length + (timeBits u.t u.d time).length, t := time, d := sub64 time u.t } := by
  have h1 : sub64 time u.t < 18446744073709551616 := by unfold sub64; omega
  have h2 : sub64 (sub64 time u.t) u.d < 18446744073709551616 := by unfold sub64; omega
  have e1 := add_sub64 time u.t hm ht
  have e2 := add_sub64 (sub64 time u.t) u.d h1 hd
  have hs := dR_step A C (sub64 (sub64 time u.t) u.d) u.st h2
  have hb : timeBits u.t u.d time = markOf (stepWay (sub64 (sub64 time u.t) u.d)) 4 ++ Pl.bitsOf (add64 (sub64 (sub64 time u.t) u.d) (stepShift (stepWay (sub64 (sub64 time u.t) u.d)))) (stepWidth (stepWay (sub64 (sub64 time u.t) u.d))) := rfl
  rw [← hb] at hs
  generalize timeBits u.t u.d time = B at *
  generalize sub64 (sub64 time u.t) u.d = e at *
  generalize sub64 time u.t = d at *
  unfold timeQ
  rw [hp, hs]
  simp only
  rw [e2, e1]
theorem inQ_of (A C : List Bool) (u : US) (y : Nat) (hp : u.pos = A.length) (hz : u.z ≠ 0) (haz : u.a + u.z ≤ 64) (hl : y ^^^ u.b < 2 ^ (64 - u.a)) (hd : (y ^^^ u.b) % 2 ^ (64 - u.a - u.z) = 0) :
    inQ (packed (A ++ (Pl.bitsOf ((y ^^^ u.b) / 2 ^ (64 - u.a - u.z)) u.z ++ C))) u = some { u with pos := A.length + u.z, b := y } := by
  unfold inQ
  rw [if_neg (by omega), hp, bR_packed]
  simp only
  rw [window_read _ _ _ hl haz hd, xor_back]
theorem winQ_of (A C : List Bool) (u : US) (a z : Nat) (hp : u.pos = A.length) (ha : a ≤ 31) (hz : 1 ≤ z) (haz : a + z ≤ 64) :
    winQ (packed (A ++ (winBits a z ++ C))) u = { u with pos := A.length + 11, a := a, z := z } := by
  unfold winQ winBits
  have h1 := bR_packed A (Pl.bitsOf (z - 1) 6 ++ C) a 5 u.st
  have h2 := bR_packed (A ++ Pl.bitsOf a 5) C (z - 1) 6 u.st
  rw [List.append_assoc, List.length_append, Pl.bitsOf_length] at h2
  rw [hp, List.append_assoc, h1]
  simp only
  rw [h2]
  simp only
  have e1 : a % 2 ^ 5 = a := Nat.mod_eq_of_lt (by omega)
  have e2 : (z - 1) % 2 ^ 6 + 1 = z := by rw [Nat.mod_eq_of_lt (by omega)]; omega
  rw [e1, e2]
theorem oneQ_of (A C : List Bool) (b : Bool) (u : US) (hp : u.pos = A.length) : oneQ (packed (A ++ b :: C)) u = { u with pos := A.length + 1 } := by
  unfold oneQ; rw [hp, bR_one]
theorem bitQ_of (A C : List Bool) (u : US) (y : Nat) (hp : u.pos = A.length) (haz : u.a + u.z ≤ 64) (hy : y < 2 ^ 64) (hb : u.b < 2 ^ 64) :
    bitQ (packed (A ++ (bitBits u.a u.z (y ^^^ u.b) ++ C))) u = some { u with pos := A.length + (bitBits u.a u.z (y ^^^ u.b)).length, b := y, a := nextA u.a u.z (y ^^^ u.b), z := nextZ u.a u.z (y ^^^ u.b) } := by
  have hx : y ^^^ u.b < 2 ^ 64 := Nat.xor_lt_two_pow hy hb
  by_cases h0 : y ^^^ u.b = 0
  · have hyb : y = u.b := by
      have := xor_back u.b y
      rw [h0, Nat.xor_zero] at this; exact this.symm
    have hw : wayOf u.a u.z (y ^^^ u.b) = 0 := by unfold wayOf; rw [if_pos h0]
    have hbb : bitBits u.a u.z (y ^^^ u.b) = [false] := by unfold bitBits; rw [hw]; simp [markOf]
    have hna : nextA u.a u.z (y ^^^ u.b) = u.a := by unfold nextA; rw [hw]; simp
    have hnz : nextZ u.a u.z (y ^^^ u.b) = u.z := by unfold nextZ; rw [hw]; simp
    rw [hbb, hna, hnz]
    show bitQ (packed (A ++ false :: C)) u = _
    unfold bitQ
    rw [oneQ_of A C false u hp, hp, bR_one, if_neg (by simp)]
    simp [hyb]
  · by_cases hh : holdsB u.a u.z (y ^^^ u.b) = true
    · have hw : wayOf u.a u.z (y ^^^ u.b) = 1 := by unfold wayOf; rw [if_neg h0, if_pos hh]
      unfold holdsB at hh
      simp only [Bool.and_eq_true, decide_eq_true_eq] at hh
      have hl := lt_of_lz _ u.a hx hh.2.1
      have hd := dvd_of_tz _ (64 - u.a - u.z) hx h0 (by omega)
      have hbb : bitBits u.a u.z (y ^^^ u.b) = [true, false] ++ Pl.bitsOf ((y ^^^ u.b) / 2 ^ (64 - u.a - u.z)) u.z := by unfold bitBits; rw [hw]; simp [markOf]
      have hna : nextA u.a u.z (y ^^^ u.b) = u.a := by unfold nextA; rw [hw]; simp
      have hnz : nextZ u.a u.z (y ^^^ u.b) = u.z := by unfold nextZ; rw [hw]; simp
      rw [hbb, hna, hnz]
      have hz : u.z ≠ 0 := by omega
      generalize hX : (y ^^^ u.b) / 2 ^ (64 - u.a - u.z) = X at *
      have e1 : A ++ ([true, false] ++ Pl.bitsOf X u.z ++ C) = A ++ true :: (false :: (Pl.bitsOf X u.z ++ C)) := by simp
      have e2 : A ++ true :: (false :: (Pl.bitsOf X u.z ++ C)) = (A ++ [true]) ++ false :: (Pl.bitsOf X u.z ++ C) := by simp
      have e3 : A ++ true :: (false :: (Pl.bitsOf X u.z ++ C)) = (A ++ [true] ++ [false]) ++ (Pl.bitsOf X u.z ++ C) := by simp
      have o1 := oneQ_of A (false :: (Pl.bitsOf X u.z ++ C)) true u hp
      have o2 := oneQ_of (A ++ [true]) (Pl.bitsOf X u.z ++ C) false { u with pos := A.length + 1 } (by simp)
      have b1 := bR_one A (false :: (Pl.bitsOf X u.z ++ C)) true u.st
      have b2 := bR_one (A ++ [true]) (Pl.bitsOf X u.z ++ C) false u.st
      have i1 := inQ_of (A ++ [true] ++ [false]) C { u with pos := (A ++ [true]).length + 1 } y (by simp) hz haz hl hd
      simp only at i1
      rw [hX] at i1
      rw [← e2] at o2 b2
      rw [← e3] at i1
      rw [e1]
      unfold bitQ
      rw [o1, o2, hp, b1]
      simp only [List.length_append, List.length_cons, List.length_nil, Nat.zero_add] at b2 i1 ⊢
      rw [b2, if_pos (by rfl), if_neg (by simp), i1]
      simp only [Pl.bitsOf_length, Option.some.injEq, US.mk.injEq, and_true]
      omega
    · have hw : wayOf u.a u.z (y ^^^ u.b) = 2 := by unfold wayOf; rw [if_neg h0, if_neg hh]
      obtain ⟨n1, n2, n3, n4⟩ := new_bounds _ h0 hx
      have hl := lt_of_lz _ (newAhead (y ^^^ u.b)) hx (by unfold newAhead; omega)
      have hd := dvd_of_tz _ (64 - newAhead (y ^^^ u.b) - newSize (y ^^^ u.b)) hx h0 (by omega)
      have hbb : bitBits u.a u.z (y ^^^ u.b) = [true, true] ++ winBits (newAhead (y ^^^ u.b)) (newSize (y ^^^ u.b)) ++ Pl.bitsOf ((y ^^^ u.b) / 2 ^ (64 - newAhead (y ^^^ u.b) - newSize (y ^^^ u.b))) (newSize (y ^^^ u.b)) := by unfold bitBits; rw [hw]; simp [markOf, List.replicate]
      have hna : nextA u.a u.z (y ^^^ u.b) = newAhead (y ^^^ u.b) := by unfold nextA; rw [hw]; simp
      have hnz : nextZ u.a u.z (y ^^^ u.b) = newSize (y ^^^ u.b) := by unfold nextZ; rw [hw]; simp
      rw [hbb, hna, hnz]
      generalize hX : (y ^^^ u.b) / 2 ^ (64 - newAhead (y ^^^ u.b) - newSize (y ^^^ u.b)) = X at *
      generalize newAhead (y ^^^ u.b) = a at *
      generalize newSize (y ^^^ u.b) = z at *
      have hz : z ≠ 0 := by omega
      generalize hR : winBits a z ++ (Pl.bitsOf X z ++ C) = R at *
      have e1 : A ++ ([true, true] ++ winBits a z ++ Pl.bitsOf X z ++ C) = A ++ true :: (true :: R) := by rw [← hR]; simp
      have e2 : A ++ true :: (true :: R) = (A ++ [true]) ++ true :: R := by simp
      have e3 : A ++ true :: (true :: R) = (A ++ [true] ++ [true]) ++ (winBits a z ++ (Pl.bitsOf X z ++ C)) := by rw [hR]; simp
      have e4 : A ++ true :: (true :: R) = (A ++ [true] ++ [true] ++ winBits a z) ++ (Pl.bitsOf X z ++ C) := by rw [← hR]; simp
      have o1 := oneQ_of A (true :: R) true u hp
      have o2 := oneQ_of (A ++ [true]) R true { u with pos := A.length + 1 } (by simp)
      have b1 := bR_one A (true :: R) true u.st
      have b2 := bR_one (A ++ [true]) R true u.st
      have w1 := winQ_of (A ++ [true] ++ [true]) (Pl.bitsOf X z ++ C) { u with pos := (A ++ [true]).length + 1 } a z (by simp) n1 n3 (by omega)
      have i1 := inQ_of (A ++ [true] ++ [true] ++ winBits a z) C { u with pos := (A ++ [true] ++ [true]).length + 11, a := a, z := z } y (by simp [winBits, Pl.bitsOf_length]) hz (by show a + z ≤ 64; omega) hl hd
      simp only at i1 w1
      rw [hX] at i1
      rw [← e2] at o2 b2
      rw [← e3] at w1
      rw [← e4] at i1
      rw [e1]
      unfold bitQ
      rw [o1, o2, hp, b1]
      simp only [List.length_append, List.length_cons, List.length_nil, Nat.zero_add] at b2 i1 w1 ⊢
      rw [b2, if_pos (by rfl), if_pos (by rfl), w1, i1]
      simp [Pl.bitsOf_length, winBits, Nat.add_assoc]
theorem goQ_of (r : List (Int × Nat)) : ∀ (A : List Bool) (u : US), u.pos = A.length → u.st = 0 → u.t < 18446744073709551616 → u.d < 18446744073709551616 → u.b < 2 ^ 64 → u.a + u.z ≤ 64 →
    (∀ x ∈ r, -9223372036854775808 ≤ x.1 ∧ x.1 ≤ 9223372036854775807 ∧ x.2 ≤ 18446744073709551615) →
    goQ (packed (A ++ goBits u.t u.d u.b u.a u.z r)) r.length u = some r := by
  induction r with
  | nil => intro A u _ h0 _ _ _ _ _; rw [List.length_nil, goQ, if_pos h0]
  | cons x r ih =>
    intro A u hp h0 ht hd hb haz hwf
    have hx := hwf x (by simp)
    have htm : u64 x.1 < 18446744073709551616 := by have := u64_le x.1; omega
    have hx2 : x.2 < 2 ^ 64 := by omega
    rw [List.length_cons, goQ, if_pos h0, goBits]
    have h1 := timeQ_of A (bitBits u.a u.z (x.2 ^^^ u.b) ++ goBits (u64 x.1) (sub64 (u64 x.1) u.t) x.2 (nextA u.a u.z (x.2 ^^^ u.b)) (nextZ u.a u.z (x.2 ^^^ u.b)) r) u (u64 x.1) hp ht hd htm
    have h2 := bitQ_of (A ++ timeBits u.t u.d (u64 x.1)) (goBits (u64 x.1) (sub64 (u64 x.1) u.t) x.2 (nextA u.a u.z (x.2 ^^^ u.b)) (nextZ u.a u.z (x.2 ^^^ u.b)) r)
      { u with pos := A.length + (timeBits u.t u.d (u64 x.1)).length, t := u64 x.1, d := sub64 (u64 x.1) u.t } x.2 (by simp) haz hx2 hb
    have hn := next_bounds u.a u.z (x.2 ^^^ u.b) haz (Nat.xor_lt_two_pow hx2 hb)
    have hs1 : sub64 (u64 x.1) u.t < 18446744073709551616 := by unfold sub64; omega
    have h3 := ih (A ++ timeBits u.t u.d (u64 x.1) ++ bitBits u.a u.z (x.2 ^^^ u.b)) ⟨(A ++ timeBits u.t u.d (u64 x.1) ++ bitBits u.a u.z (x.2 ^^^ u.b)).length, 0, u64 x.1, sub64 (u64 x.1) u.t, x.2, nextA u.a u.z (x.2 ^^^ u.b), nextZ u.a u.z (x.2 ^^^ u.b)⟩
      rfl rfl htm hs1 hx2 hn (fun y hy => hwf y (by simp [hy]))
    simp only at h1 h2 h3
    generalize goBits (u64 x.1) (sub64 (u64 x.1) u.t) x.2 (nextA u.a u.z (x.2 ^^^ u.b)) (nextZ u.a u.z (x.2 ^^^ u.b)) r = G at *
    simp only [List.append_assoc] at h1 h2 h3 ⊢
    rw [h1, h2]
    simp only
    have hsame : (⟨(A ++ timeBits u.t u.d (u64 x.1)).length + (bitBits u.a u.z (x.2 ^^^ u.b)).length, u.st, u64 x.1, sub64 (u64 x.1) u.t, x.2, nextA u.a u.z (x.2 ^^^ u.b), nextZ u.a u.z (x.2 ^^^ u.b)⟩ : US) = ⟨(A ++ (timeBits u.t u.d (u64 x.1) ++ bitBits u.a u.z (x.2 ^^^ u.b))).length, 0, u64 x.1, sub64 (u64 x.1) u.t, x.2, nextA u.a u.z (x.2 ^^^ u.b), nextZ u.a u.z (x.2 ^^^ u.b)⟩ := by
      rw [h0]; simp [Nat.add_assoc]
    rw [hsame, h3]
    have : samU ⟨(A ++ (timeBits u.t u.d (u64 x.1) ++ bitBits u.a u.z (x.2 ^^^ u.b))).length, 0, u64 x.1, sub64 (u64 x.1) u.t, x.2, nextA u.a u.z (x.2 ^^^ u.b), nextZ u.a u.z (x.2 ^^^ u.b)⟩ = x := by
      unfold samU; rw [toI_u64 x.1 hx.1 hx.2.1]
    rw [Option.map_some, this]
theorem samplesQ_of (x : Int × Nat) (r : List (Int × Nat)) (hn : (x :: r).length ≤ 40) (hwf : ∀ y ∈ x :: r, -9223372036854775808 ≤ y.1 ∧ y.1 ≤ 9223372036854775807 ∧ y.2 ≤ 18446744073709551615) :
    samplesQ (packed (chunkBits (x :: r))) (x :: r).length = some (x :: r) := by
  have hx := hwf x (by simp)
  have htm : u64 x.1 < 18446744073709551616 := by have := u64_le x.1; omega
  have hx2 : x.2 < 2 ^ 64 := by omega
  have hc : chunkBits (x :: r) = Pl.bitsOf (u64 x.1) 64 ++ (Pl.bitsOf x.2 64 ++ goBits (u64 x.1) 0 x.2 0 0 r) := by rw [chunkBits, List.append_assoc]
  have hsz : 16 ≤ (packed (chunkBits (x :: r))).size := by rw [packed_size, hc]; simp [Pl.bitsOf_length]; omega
  have hf : firstQ (packed (chunkBits (x :: r))) = ⟨128, 0, u64 x.1, 0, x.2, 0, 0⟩ := by
    have h1 := bR_packed [] (Pl.bitsOf x.2 64 ++ goBits (u64 x.1) 0 x.2 0 0 r) (u64 x.1) 64 0
    have h2 := bR_packed (Pl.bitsOf (u64 x.1) 64) (goBits (u64 x.1) 0 x.2 0 0 r) x.2 64 0
    rw [List.nil_append, List.length_nil, Nat.zero_add, Nat.mod_eq_of_lt htm] at h1
    rw [Pl.bitsOf_length, Nat.mod_eq_of_lt hx2] at h2
    unfold firstQ
    rw [hc, h1]
    simp only
    rw [h2]
  have hg := goQ_of r (Pl.bitsOf (u64 x.1) 64 ++ Pl.bitsOf x.2 64) ⟨128, 0, u64 x.1, 0, x.2, 0, 0⟩ (by simp [Pl.bitsOf_length]) rfl htm (by show 0 < 18446744073709551616; omega) hx2 (by show 0 + 0 ≤ 64; omega) (fun y hy => hwf y (by simp [hy]))
  simp only at hg
  unfold samplesQ
  rw [if_neg (by rw [List.length_cons] at hn ⊢; omega), hf, List.length_cons, Nat.add_sub_cancel, chunkBits, hg]
  unfold samU
  rw [toI_u64 x.1 hx.1 hx.2.1]
  rfl
end Go.Proofs.YtamcclcbmenjdaaGreatDoor

/- The reference's reader of bytes: varint. -/
namespace Go.Proofs.YtamcclcbmenjdaaGreatDoor
open Go.RowKit Go.Lib

theorem vGo_bad {S : ByteArray} {j a n f : Nat} {bad : Bool} (h : bad = true ∨ S.size < a + 1) : vGo S (j + 1) a bad n f = (0, a, true) := by rw [vGo, if_pos h]
theorem vGo_end {S : ByteArray} {j a n f : Nat} {bad : Bool} (h : ¬ (bad = true ∨ S.size < a + 1)) (hb : byteAt S a < 128) : vGo S (j + 1) a bad n f = (n + f * (byteAt S a % 128), a + 1, false) := by rw [vGo, if_neg h, if_pos hb]
theorem vGo_on {S : ByteArray} {j a n f : Nat} {bad : Bool} (h : ¬ (bad = true ∨ S.size < a + 1)) (hb : ¬ byteAt S a < 128) : vGo S (j + 1) a bad n f = vGo S j (a + 1) false (n + f * (byteAt S a % 128)) (f * 128) := by rw [vGo, if_neg h, if_neg hb]
theorem vstep {n f B : Nat} (hn : n < f) : n + f * (B % 128) < f * 128 := by
  have : f * (B % 128) ≤ f * 127 := Nat.mul_le_mul_left f (by omega)
  omega

theorem vnum2 {n f B : Nat} (hn : n < f) (hf : f ≤ 34359738368) : wrap64 ((n : Int) + wrap64 ((f : Int) * ((B : Int) % 128))) = ((n + f * (B % 128) : Nat) : Int) := by
  have h3 : f * (B % 128) ≤ 34359738368 * 127 := Nat.mul_le_mul hf (by omega)
  have h4 : (f : Int) * ((B : Int) % 128) = ((f * (B % 128) : Nat) : Int) := by simp
  rw [h4]
  generalize f * (B % 128) = x at *
  have h5 : wrap64 (x : Int) = (x : Int) := by unfold wrap64; omega
  rw [h5]
  unfold wrap64; omega
theorem vint {k : IntKind} {a b : Int} (h : a = b) : Value.int k a = .int k b := by rw [h]

set_option maxRecDepth 100000 in
set_option maxHeartbeats 1000000 in
theorem varintRd_any (w : World) (rb : Nat) (S : ByteArray) (at' : Nat) (bad : Bool) (h : Rdr w rb S at' bad) (ha : at' ≤ S.size) (hS : S.size ≤ 140737488355328) :
    Calls Tryz.prog 85 #[.pointer (some ⟨rb, 0, none⟩)] w fun e w' => e = .returned (.int .i64 (vR S at' bad).1) ∧ Rdr w' rb S (vR S at' bad).2.1 (vR S at' bad).2.2 ∧ Only w w' rb := by
  have H := hide h
  clear h
  go_enter Tryz.func85, Tryz.ntmps85
  go_wp2
  go_loopw [3, 4, 5, 6] (fun nv fv iv _ wr => ∃ (k n f a : Nat) (b : Bool), k ≤ 5 ∧ nv = .int .i64 n ∧ fv = .int .i64 f ∧ iv = .int .i64 k ∧ Hid (f = 128 ^ k ∧ n < f) ∧ a ≤ S.size ∧ Hid (Rdr wr rb S a b) ∧ Hid (Only w wr rb) ∧ Hid (vGo S (5 - k) a b n f = vR S at' bad)) (fun _ _ i _ _ => 5 - (intOf i).toNat)
  case atStart => exact ⟨0, 0, 1, at', bad, by omega, rfl, rfl, rfl, ⟨rfl, by omega⟩, ha, H.out, Only.refl w rb, rfl⟩
  case round =>
    obtain ⟨k, n, f, a, b, hk, rfl, rfl, rfl, HF, ha2, HR, HO, HV⟩ := hrel
    by_cases hlt : k < 5
    · obtain ⟨j, hj⟩ : ∃ j, 5 - k = j + 1 := ⟨5 - k - 1, by omega⟩
      have HV2 := HV.out
      rw [hj] at HV2
      have C1 := hide (part_any wr rb S a b 1 HR.out ha2 hS (by omega) (by omega))
      by_cases hb : b = true ∨ S.size < a + 1
      · have HE : Hid (vR S at' bad = (0, a, true)) := by rw [← HV2]; exact vGo_bad hb
        have HP := hide (partR_bad hb)
        clear HV HV2 hb hj
        go_wp2_with fail
        refine C1.out.mono ?_
        rintro e w1 ⟨rfl, hr1, ho1⟩
        rw [HP.out] at hr1 ⊢
        have c2 := hr1.cell (i := 2) rfl
        have HR1 := hide hr1
        have HO1 := hide (HO.out.trans ho1)
        clear hr1 ho1 C1
        go_wp2
        go_ret
        rw [HE.out]
        exact ⟨rfl, HR1.out, HO1.out⟩
      · have HP := hide (partR_one hb)
        have hsz : (S.extract a (a + 1)).size = 1 := by rw [ByteArray.size_extract]; omega
        have hbyte : ∀ hp, ((S.extract a (a + 1))[0]'hp).toNat = byteAt S a := fun hp => byte_first (by omega) hp
        obtain ⟨X, hX⟩ : ∃ X, X = S.extract a (a + 1) := ⟨_, rfl⟩
        rw [← hX] at hsz hbyte
        have HX := hide hX
        have hB := byteAt_lt S a
        by_cases hs : byteAt S a < 128
        · have HE : Hid (vR S at' bad = (n + f * (byteAt S a % 128), a + 1, false)) := by rw [← HV2]; exact vGo_end hb hs
          have HN := hide (vnum2 (B := byteAt S a) HF.out.2 (by rw [HF.out.1]; exact Nat.le_trans (Nat.pow_le_pow_right (by decide) (by omega : k ≤ 5)) (by decide)))
          clear HV HV2 hb hj hX
          generalize byteAt S a = B at *
          go_wp2_with fail
          refine C1.out.mono ?_
          rintro e w1 ⟨rfl, hr1, ho1⟩
          rw [HP.out] at hr1 ⊢
          have c2 := hr1.cell (i := 2) rfl
          have HR1 := hide hr1
          have HO1 := hide (HO.out.trans ho1)
          clear hr1 ho1 C1
          simp only
          rw [← HX.out]
          clear HX HP HF HR HO
          go_wp2
          go_ret
          rw [HE.out]
          exact ⟨ret_int HN.out, HR1.out, HO1.out⟩
        · have HE : Hid (vGo S (5 - (k + 1)) (a + 1) false (n + f * (byteAt S a % 128)) (f * 128) = vR S at' bad) := by rw [← HV2, show 5 - (k + 1) = j by omega]; exact (vGo_on hb hs).symm
          have HN := hide (vnum2 (B := byteAt S a) HF.out.2 (by rw [HF.out.1]; exact Nat.le_trans (Nat.pow_le_pow_right (by decide) (by omega : k ≤ 5)) (by decide)))
          have HF2 : Hid (f * 128 = 128 ^ (k + 1) ∧ n + f * (byteAt S a % 128) < f * 128) := ⟨by rw [HF.out.1, Nat.pow_succ], vstep HF.out.2⟩
          have hfl : f ≤ 268435456 := by rw [HF.out.1]; exact Nat.le_trans (Nat.pow_le_pow_right (by decide) (by omega : k ≤ 4)) (by decide)
          have has : a + 1 ≤ S.size := by omega
          clear HV HV2 hb hj hX
          generalize byteAt S a = B at *
          go_wp2_with fail
          refine C1.out.mono ?_
          rintro e w1 ⟨rfl, hr1, ho1⟩
          rw [HP.out] at hr1 ⊢
          have c2 := hr1.cell (i := 2) rfl
          have HR1 := hide hr1
          have HO1 := hide (HO.out.trans ho1)
          clear hr1 ho1 C1
          simp only
          rw [← HX.out]
          clear HX HP HF HR HO
          go_wp2
          go_roundw
          case rel => exact ⟨k + 1, n + f * (B % 128), f * 128, a + 1, false, by omega, vint HN.out, vint (by rw [Int.natCast_mul]; simp; omega), by go_num, HF2.out, has, HR1.out, HO1.out, HE.out⟩
          case measure => simp [intOf]; omega
    · have hke : k = 5 := by omega
      have HE : Hid (vR S at' bad = (0, a, true)) := by rw [← HV.out, hke]; rfl
      have c2 := HR.out.cell (i := 2) rfl
      have f2 := HR.out.frozen 2
      have HX : Hid (Rdr (wr.setCell ⟨rb, 2, none⟩ (.bool true)) rb S a true ∧ Only w (wr.setCell ⟨rb, 2, none⟩ (.bool true)) rb) := ⟨HR.out.set 2 (.bool true), HO.out.trans ⟨rfl, rfl, rfl, by simp, fun k _ hne => Below.heap_setCell wr ⟨rb, 2, none⟩ (.bool true) k (fun e => hne (by rw [e]))⟩⟩
      clear hke HV HF
      go_wp2
      go_ret
      rw [HE.out]
      exact ⟨rfl, HX.out⟩
end Go.Proofs.YtamcclcbmenjdaaGreatDoor

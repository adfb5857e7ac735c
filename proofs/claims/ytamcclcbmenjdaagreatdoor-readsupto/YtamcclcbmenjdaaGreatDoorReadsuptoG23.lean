/- 'choirlaw.Reads', for any list of texts of bulk at most 1048576: Decode answers the document's batch or error, one behind the other; lists that came out are their owner's own. The second form's statement and its card: its only condition is the row's own bound on the argument's bulk. -/
import Derived.Test.YtamcclcbmenjdaaGreatDoorReadsuptoG19
import Derived.Test.YtamcclcbmenjdaaGreatDoorReadsuptoG17
import Derived.Test.YtamcclcbmenjdaaGreatDoorReadsuptoG20
import Derived.Test.YtamcclcbmenjdaaGreatDoorReadsuptoG22
/- The reference: Reader.series. -/
namespace Go.Proofs.YtamcclcbmenjdaaGreatDoor
open Go.RowKit Go.Lib

theorem varint_eq (w : World) (rb : Nat) (S : ByteArray) {p x q : Nat} {bad b : Bool} (h : Rdr w rb S p bad) (hp : p ≤ S.size) (hS : S.size ≤ 140737488355328) (he : vR S p bad = (x, q, b)) :
    Calls Tryz.prog 85 #[.pointer (some ⟨rb, 0, none⟩)] w fun e w' => e = .returned (.int .i64 x) ∧ Rdr w' rb S q b ∧ Only w w' rb := by
  have := varintRd_any w rb S p bad h hp hS
  rw [he] at this
  exact this
theorem vGo_lt (S : ByteArray) : ∀ (k p : Nat) (bad : Bool) (n f : Nat), n < f → (vGo S k p bad n f).1 < f * 128 ^ k
  | 0, _, _, _, f, h => by show 0 < f * 128 ^ 0; omega
  | k + 1, p, bad, n, f, h => by
    unfold vGo
    have h3 : f * 128 ≤ f * 128 ^ (k + 1) := Nat.mul_le_mul_left f (by rw [Nat.pow_succ]; have := Nat.pow_pos (n := k) (show 0 < 128 by decide); omega)
    split
    · show 0 < f * 128 ^ (k + 1); omega
    · split
      · have := vstep (n := n) (f := f) (B := byteAt S p) h
        simp only; omega
      · have := vGo_lt S k (p + 1) false (n + f * (byteAt S p % 128)) (f * 128) (vstep h)
        rw [Nat.pow_succ]
        rw [Nat.mul_assoc, Nat.mul_comm 128] at this
        exact this
theorem vR_eq {S : ByteArray} {p x q : Nat} {bad b : Bool} (h : vR S p bad = (x, q, b)) (hp : p ≤ S.size) : x < 34359738368 ∧ q ≤ S.size := by
  have h1 := vGo_lt S 5 p bad 0 1 (by omega)
  have h2 := vGo_at S 5 p bad 0 1 hp
  unfold vR at h
  rw [h] at h1 h2
  exact ⟨h1, h2⟩
theorem vR_bad (S : ByteArray) (p : Nat) : vR S p true = (0, p, true) := by unfold vR; rw [vGo, if_pos (.inl rfl)]
theorem partR_eq {S X : ByteArray} {p q : Nat} {n : Int} {bad b : Bool} (h : partR S p bad n = (X, q, b)) (hp : p ≤ S.size) : q ≤ S.size ∧ X.size ≤ S.size ∧ (b = true → X.size = 0) := by
  unfold partR at h
  split at h
  · cases h; exact ⟨hp, Nat.zero_le _, fun _ => rfl⟩
  · cases h
    refine ⟨by omega, ?_, fun e => by cases e⟩
    rw [ByteArray.size_extract]; omega
theorem part_eq (w : World) (rb : Nat) (S : ByteArray) {X : ByteArray} {p q z : Nat} {bad b : Bool} (h : Rdr w rb S p bad) (hp : p ≤ S.size) (hS : S.size ≤ 140737488355328) (hz : z < 34359738368) (he : partR S p bad z = (X, q, b)) :
    Calls Tryz.prog 86 #[.pointer (some ⟨rb, 0, none⟩), .int .i64 z] w fun e w' => e = .returned (.string X) ∧ Rdr w' rb S q b ∧ Only w w' rb := by
  have := part_any w rb S p bad z h hp hS (by omega) (by omega)
  rw [he] at this
  exact this
theorem samplesQ_size {X : ByteArray} {n : Nat} {l : List (Int × Nat)} (h : samplesQ X n = some l) : 16 ≤ X.size := by
  unfold samplesQ at h
  split at h
  · cases h
  · omega
theorem mQ_eq {S X : ByteArray} {p c p1 z p2 p3 : Nat} {bad b1 b2 b3 : Bool} (h1 : vR S p bad = (c, p1, b1)) (h2 : vR S p1 b1 = (z, p2, b2)) (h3 : partR S p2 b2 z = (X, p3, b3)) : mQ S p bad = (samplesQ X c).map fun l => (l, p3) := by
  unfold mQ; rw [h1]; simp only; rw [h2]; simp only; rw [h3]
theorem mQ_bad (S : ByteArray) (p : Nat) : mQ S p true = none := by
  have h3 : partR S p true (0 : Nat) = (ByteArray.empty, p, true) := if_pos (.inl rfl)
  rw [mQ_eq (vR_bad S p) (vR_bad S p) h3]
  rfl
theorem lQ_bad (S : ByteArray) (t : List ByteArray) (k p : Nat) : lQ S t k p true = none := by cases k <;> rw [lQ, if_pos rfl]
theorem lQ_off {S : ByteArray} {t : List ByteArray} {k p x1 p1 x2 p2 : Nat} {b1 b2 : Bool} (h1 : vR S p false = (x1, p1, b1)) (h2 : vR S p1 b1 = (x2, p2, b2)) (h : t.length ≤ x1 ∨ t.length ≤ x2) : lQ S t (k + 1) p false = none := by
  rw [lQ, if_neg (by decide), h1]; simp only; rw [h2, if_pos h]
theorem lQ_on {S : ByteArray} {t : List ByteArray} {k p x1 p1 x2 p2 : Nat} {b1 b2 : Bool} {y1 y2 : ByteArray} (h1 : vR S p false = (x1, p1, b1)) (h2 : vR S p1 b1 = (x2, p2, b2)) (e1 : t[x1]? = some y1) (e2 : t[x2]? = some y2) :
    lQ S t (k + 1) p false = (lQ S t k p2 b2).map fun r => ((y1, y2) :: r.1, r.2) := by
  have k1 := (List.getElem?_eq_some_iff.1 e1).1
  have k2 := (List.getElem?_eq_some_iff.1 e2).1
  rw [lQ, if_neg (by decide), h1]; simp only; rw [h2, if_neg (by simp only; omega)]
  simp only [List.getD_eq_getElem?_getD, e1, e2, Option.getD_some]
/-- What is left to be read of a series. -/
def restQ (S : ByteArray) (t : List ByteArray) (done : List Lab) (k p : Nat) (bad : Bool) : Option (Ser × Nat) :=
  match lQ S t k p bad with
  | none => none
  | some (l, a1) => (mQ S a1 false).map fun r => ((done ++ l, r.1), r.2)
theorem restQ_bad (S : ByteArray) (t : List ByteArray) (done : List Lab) (k p : Nat) : restQ S t done k p true = none := by unfold restQ; rw [lQ_bad]
theorem restQ_off {S : ByteArray} {t : List ByteArray} {done : List Lab} {k p x1 p1 x2 p2 : Nat} {b1 b2 : Bool} (h1 : vR S p false = (x1, p1, b1)) (h2 : vR S p1 b1 = (x2, p2, b2)) (h : t.length ≤ x1 ∨ t.length ≤ x2) : restQ S t done (k + 1) p false = none := by unfold restQ; rw [lQ_off h1 h2 h]
theorem restQ_on {S : ByteArray} {t : List ByteArray} {done : List Lab} {k p x1 p1 x2 p2 : Nat} {b1 b2 : Bool} {y1 y2 : ByteArray} (h1 : vR S p false = (x1, p1, b1)) (h2 : vR S p1 b1 = (x2, p2, b2)) (e1 : t[x1]? = some y1) (e2 : t[x2]? = some y2) :
    restQ S t done (k + 1) p false = restQ S t (done ++ [(y1, y2)]) k p2 b2 := by
  unfold restQ
  rw [lQ_on h1 h2 e1 e2]
  cases lQ S t k p2 b2 with
  | none => rfl
  | some r => simp
theorem restQ_end (S : ByteArray) (t : List ByteArray) (done : List Lab) (p : Nat) (bad : Bool) : restQ S t done 0 p bad = (mQ S p bad).map fun r => ((done, r.1), r.2) := by
  cases bad with
  | true => rw [restQ_bad, mQ_bad]; rfl
  | false => unfold restQ; rw [lQ, if_neg (by decide)]; simp
theorem serQ_rest {S : ByteArray} {t : List ByteArray} {p n p1 : Nat} {b1 : Bool} (h : vR S p false = (n, p1, b1)) (hn : ¬ 4 < n) : serQ S t p = restQ S t [] n p1 b1 := by
  unfold serQ restQ
  rw [h, if_neg hn]
  simp only [List.nil_append]
  cases lQ S t n p1 b1 with
  | none => rfl
  | some r => rfl
theorem serQ_many {S : ByteArray} {t : List ByteArray} {p n p1 : Nat} {b1 : Bool} (h : vR S p false = (n, p1, b1)) (hn : 4 < n) : serQ S t p = none := by
  unfold serQ
  rw [h, if_pos hn]
/-- The state of series: the labels so far. -/
structure SerSt (W w : World) (rb : Nat) (S : ByteArray) (p : Nat) (bad : Bool) (lv : Value) (done : List Lab) : Prop where
  only : Only W w rb
  rdr : Rdr w rb S p bad
  res : Blk w W.heap.size 38 [.slice none 0 0, .slice none 0 0]
  out : Blk w (W.heap.size + 1) 38 [lv, .slice none 0 0]
  own : w.ownsRow (W.heap.size + 2) 80 2 lv done.length (labCells done)
  hp : p ≤ S.size
  hrb : rb < W.heap.size
theorem SerSt.call {W w w' : World} {rb p q : Nat} {S : ByteArray} {bad b : Bool} {lv : Value} {done : List Lab} (h : SerSt W w rb S p bad lv done) (hr : Rdr w' rb S q b) (ho : Only w w' rb) (hq : q ≤ S.size) : SerSt W w' rb S q b lv done :=
  ⟨h.only.trans ho, hr, Blk.kept h.res (ho.block _ (Blk.lt h.res) (fun e => by have := h.hrb; cases e; omega)), Blk.kept h.out (ho.block _ (Blk.lt h.out) (fun e => by have := h.hrb; cases e; omega)), own_only h.own ho (by have := h.hrb; omega), hq, h.hrb⟩
theorem SerSt.turn {W w : World} {rb p : Nat} {S : ByteArray} {bad : Bool} {lv : Value} {done : List Lab} (h : SerSt W w rb S p bad lv done) : SerSt W (w.setCell ⟨rb, 2, none⟩ (.bool true)) rb S p true lv done :=
  h.call (Blk.set h.rdr 2 (.bool true)) (Only.set w rb 2 _) h.hp
theorem SerSt.texts {W w : World} {rb p tb : Nat} {S : ByteArray} {bad : Bool} {lv tv : Value} {done : List Lab} {t : List ByteArray} (h : SerSt W w rb S p bad lv done) (ht : TextsAt W tv tb t) (htb : tb < W.heap.size) (hne : tb ≠ rb) : TextsAt w tv tb t :=
  ht.kept (h.only.block tb htb (fun e => hne (Option.some.inj e)))
/-- What series answers. -/
def SerEnd (W w' : World) (rb : Nat) (S : ByteArray) (t : List ByteArray) (p : Nat) (e : Ending) : Prop :=
  ∃ a0 n0 c0 a1 n1 c1 q bad, e = .returned (.agg #[.slice a0 n0 c0, .slice a1 n1 c1]) ∧ Rdr w' rb S q bad ∧ q ≤ S.size ∧ Only W w' rb ∧ (serQ S t p = none → bad = true) ∧
    ∀ s r, serQ S t p = some (s, r) → bad = false ∧ q = r ∧ w'.ownsRow W.heap.size 80 2 (.slice a0 n0 c0) s.1.length (labCells s.1) ∧ w'.ownsRow W.heap.size 34 2 (.slice a1 n1 c1) s.2.length (samCells s.2)
/-- Only the two structs of the call's own have turned. -/
structure Near (W w w' : World) : Prop where
  os : w'.os = w.os
  tape : w'.tape = w.tape
  output : w'.output = w.output
  size : w'.heap.size = w.heap.size
  block : ∀ k, k ≠ W.heap.size → k ≠ W.heap.size + 1 → w'.heap[k]? = w.heap[k]?
theorem Near.refl (W w : World) : Near W w w := ⟨rfl, rfl, rfl, rfl, fun _ _ _ => rfl⟩
theorem Near.set {W w w' : World} (h : Near W w w') (g i : Nat) (v : Value) (hg : g = W.heap.size ∨ g = W.heap.size + 1) : Near W w (w'.setCell ⟨g, i, none⟩ v) :=
  ⟨h.os, h.tape, h.output, by simpa using h.size, fun k h1 h2 => (Below.heap_setCell w' ⟨g, i, none⟩ v k (by rcases hg with rfl | rfl <;> assumption)).trans (h.block k h1 h2)⟩
theorem Near.only {W w w' : World} {rb : Nat} (h : Near W w w') (ho : Only W w rb) : Only W w' rb :=
  ⟨h.os.trans ho.os, h.tape.trans ho.tape, h.output.trans ho.output, by rw [h.size]; exact ho.size, fun k hk hne => (h.block k (by omega) (by omega)).trans (ho.block k hk hne)⟩
theorem serEnd_none {W w w' : World} {rb p0 p : Nat} {S : ByteArray} {t : List ByteArray} {bad : Bool} {lv : Value} {done : List Lab} (h : SerSt W w rb S p bad lv done) (hn : Near W w w') (hb : bad = true) (hq : serQ S t p0 = none) {a0 : Option Addr} {n0 c0 : Nat} {a1 : Option Addr} {n1 c1 : Nat} :
    SerEnd W w' rb S t p0 (.returned (.agg #[.slice a0 n0 c0, .slice a1 n1 c1])) := by
  have hrb := h.hrb
  exact ⟨_, _, _, _, _, _, p, bad, rfl, Blk.kept h.rdr (hn.block _ (by omega) (by omega)), h.hp, hn.only h.only, fun _ => hb, fun s r e => by rw [hq] at e; cases e⟩
theorem serEnd_some {W w w' : World} {rb p0 p : Nat} {S : ByteArray} {t : List ByteArray} {bad : Bool} {done : List Lab} {l : List (Int × Nat)} {a0 : Option Addr} {n0 c0 : Nat} {a1 : Option Addr} {n1 c1 : Nat} (h : SerSt W w rb S p bad (.slice a0 n0 c0) done) (hn : Near W w w') (hb : bad = false) (hq : serQ S t p0 = some ((done, l), p))
    (ho : w.ownsRow (W.heap.size + 2) 34 2 (.slice a1 n1 c1) l.length (samCells l)) : SerEnd W w' rb S t p0 (.returned (.agg #[.slice a0 n0 c0, .slice a1 n1 c1])) := by
  have hrb := h.hrb
  refine ⟨_, _, _, _, _, _, p, bad, rfl, Blk.kept h.rdr (hn.block _ (by omega) (by omega)), h.hp, hn.only h.only, fun e => (by rw [hq] at e; cases e), fun s r e => ?_⟩
  rw [hq] at e
  cases e
  refine ⟨hb, rfl, own_mono (own_kept h.own fun k e => ?_) (by omega), own_mono (own_kept ho fun k e => ?_) (by omega)⟩
  · have := (World.ownsRow.lt h.own k e).1
    exact hn.block k (by omega) (by omega)
  · have := (World.ownsRow.lt ho k e).1
    exact hn.block k (by omega) (by omega)
theorem SerSt.sz {W w : World} {rb p : Nat} {S : ByteArray} {bad : Bool} {lv : Value} {done : List Lab} (h : SerSt W w rb S p bad lv done) : W.heap.size + 2 ≤ w.heap.size := Blk.lt h.out
/-- Nothing that was there has turned. -/
theorem SerSt.kept {W w w' : World} {rb p : Nat} {S : ByteArray} {bad : Bool} {lv : Value} {done : List Lab} (h : SerSt W w rb S p bad lv done) (hb : Below w.heap.size w w') : SerSt W w' rb S p bad lv done :=
  h.call (Blk.kept h.rdr (hb.block _ (Blk.lt h.rdr))) (grownBy_of_below _ hb) h.hp
/-- One label more. -/
theorem SerSt.grow {W w w1 w2 : World} {rb p : Nat} {S : ByteArray} {bad : Bool} {lv lv' : Value} {done : List Lab} {x : Lab} (h : SerSt W w rb S p bad lv done) (ha : ∀ k, k < w.heap.size → w1.heap[k]? = w.heap[k]?) (h1 : w1.os = w.os ∧ w1.tape = w.tape ∧ w1.output = w.output ∧ w.heap.size ≤ w1.heap.size) (hg : w1.grownBy w2 lv.ownBlock)
    (ho : w2.ownsRow (W.heap.size + 2) 80 2 lv' (done.length + 1) (labCells done ++ [.string x.1, .string x.2])) (hat : ∀ k, lv'.ownBlock = some k → W.heap.size + 2 ≤ k) : SerSt W (w2.setCell ⟨W.heap.size + 1, 0, none⟩ lv') rb S p bad lv' (done ++ [x]) := by
  have hsz := h.sz
  have hrb := h.hrb
  have hoff : ∀ k, k < W.heap.size + 2 → w2.heap[k]? = w.heap[k]? := fun k hk => (hg.block k (by omega) (fun e => by have := (World.ownsRow.lt h.own k e.symm).1; omega)).trans (ha k (by omega))
  have hset : ∀ k, k ≠ W.heap.size + 1 → (w2.setCell ⟨W.heap.size + 1, 0, none⟩ lv').heap[k]? = w2.heap[k]? := fun k hk => Below.heap_setCell w2 ⟨W.heap.size + 1, 0, none⟩ lv' k hk
  refine ⟨⟨hg.os.trans (h1.1.trans h.only.os), hg.tape.trans (h1.2.1.trans h.only.tape), hg.output.trans (h1.2.2.1.trans h.only.output), ?_, fun k hk hne => (hset k (by omega)).trans ((hoff k (by omega)).trans (h.only.block k hk hne))⟩, Blk.kept h.rdr ((hset _ (by omega)).trans (hoff _ (by omega))), Blk.kept h.res ((hset _ (by omega)).trans (hoff _ (by omega))), Blk.set (Blk.kept h.out (hoff _ (by omega))) 0 lv', ?_, h.hp, hrb⟩
  · have := hg.size; simp; omega
  · have e : labCells (done ++ [x]) = labCells done ++ [.string x.1, .string x.2] := labCells_snoc done x
    rw [e, List.length_append]
    exact own_kept ho fun k hk => hset k (by have := hat k hk; omega)

set_option maxRecDepth 100000 in
set_option maxHeartbeats 1000000 in
theorem series_any (W : World) (rb : Nat) (S : ByteArray) (p tb : Nat) (tv : Value) (t : List ByteArray) (h : Rdr W rb S p false) (hp : p ≤ S.size) (hS : S.size ≤ 140737488355328) (ht : TextsAt W tv tb t) (htb : tb < W.heap.size) (hne : tb ≠ rb) :
    Calls Tryz.prog 87 #[.pointer (some ⟨rb, 0, none⟩), tv] W fun e w' => SerEnd W w' rb S t p e := by
  obtain ⟨i1, hi1, hy0, hy1, hy2⟩ := info_parts Tryz.infoLab
  obtain ⟨ta, tc, rfl⟩ : ∃ a c, tv = .slice a t.length c := by
    rcases ht.shape with ⟨h, a, c, h2⟩ | ⟨o, c, h2, _⟩
    · exact ⟨a, c, by rw [h2, h]; rfl⟩
    · exact ⟨_, c, h2⟩
  obtain ⟨n, p1, b1, e1⟩ : ∃ x y b, vR S p false = (x, y, b) := ⟨_, _, _, rfl⟩
  obtain ⟨hn35, hp1⟩ := vR_eq e1 hp
  have hrb := Blk.lt h
  have HT := hide ht
  have HE1 := hide e1
  have hr0 : Rdr ((W.alloc (.cells #[.slice none 0 0, .slice none 0 0] 38)).alloc (.cells #[.slice none 0 0, .slice none 0 0] 38)) rb S p false := Blk.alloc (Blk.alloc h _) _
  have hs0 : SerSt W ((W.alloc (.cells #[.slice none 0 0, .slice none 0 0] 38)).alloc (.cells #[.slice none 0 0, .slice none 0 0] 38)) rb S p false (.slice none 0 0) [] :=
    ⟨⟨rfl, rfl, rfl, by simp; omega, fun k hk _ => (heap_alloc_old _ _ (by simp; omega)).trans (heap_alloc_old W _ hk)⟩, hr0, Blk.alloc (Blk.new W _ _) _, by have := Blk.new (W.alloc (.cells #[.slice none 0 0, .slice none 0 0] 38)) 38 [.slice none 0 0, .slice none 0 0]; simpa using this, World.ownsRow_nil _ _ _ _, hp, hrb⟩
  have C0 := hide (varint_eq _ rb S hr0 hp hS e1)
  have HS0 := hide hs0
  clear h ht hr0 hs0 e1
  go_enter Tryz.func87, Tryz.ntmps87
  go_wp2_with fail
  refine C0.out.mono ?_
  rintro e w1 ⟨rfl, hr1, ho1⟩
  have HS1 := hide (HS0.out.call hr1 ho1 hp1)
  clear hr1 ho1 C0 HS0
  have f2 := Blk.frozen HS1.out.rdr 2
  have c2 := Blk.cell HS1.out.rdr (i := 2) rfl
  by_cases h4 : 4 < n
  all_goals
    first
    | (have HV : Hid (serQ S t p = restQ S t [] n p1 true) := (serQ_many HE1.out h4).trans (restQ_bad S t [] n p1).symm
       have HS2 := hide HS1.out.turn
       clear HS1 HE1
       go_wp2)
    | (have HV : Hid (serQ S t p = restQ S t [] n p1 b1) := serQ_rest HE1.out h4
       have HS2 := HS1
       clear HS1 HE1 c2 f2
       go_wp2)
    go_loopw [7, 8, 9] (fun iv _ _ wr => ∃ (k q : Nat) (bb : Bool) (lv : Value) (done : List Lab), k ≤ n ∧ iv = .int .i64 k ∧ done.length ≤ k ∧ Hid (4 < n → bb = true) ∧ Hid (SerSt W wr rb S q bb lv done) ∧ Hid (serQ S t p = restQ S t done (n - k) q bb)) (fun i _ _ _ => n - (intOf i).toNat)
    case atStart => exact ⟨0, p1, _, _, [], Nat.zero_le _, rfl, Nat.le_refl _, fun h => (by first | rfl | exact absurd h h4), HS2.out, HV.out⟩
    case round =>
      obtain ⟨k, q, bb, lv, done, hk, rfl, hdk, H4, HS, HW⟩ := hrel
      clear HS2 HV
      have c2 := Blk.cell HS.out.rdr (i := 2) rfl
      by_cases hgo : k < n ∧ bb = false
      · obtain ⟨hlt, rfl⟩ := hgo
        by_cases h5 : 4 < n
        · exact absurd (H4.out h5) (by decide)
        try exact absurd h4 h5
        all_goals
          clear H4
          obtain ⟨x1, q1, v1, e1⟩ : ∃ x y b, vR S q false = (x, y, b) := ⟨_, _, _, rfl⟩
          obtain ⟨x2, q2, v2, e2⟩ : ∃ x y b, vR S q1 v1 = (x, y, b) := ⟨_, _, _, rfl⟩
          obtain ⟨hx1, hq1⟩ := vR_eq e1 HS.out.hp
          obtain ⟨hx2, hq2⟩ := vR_eq e2 hq1
          have C1 := hide (varint_eq wr rb S HS.out.rdr HS.out.hp hS e1)
          have HE1 := hide e1
          have HE2 := hide e2
          clear e1 e2
          go_wp2_with fail
          refine C1.out.mono ?_
          rintro e w3 ⟨rfl, hr3, ho3⟩
          have HS3 := hide (HS.out.call hr3 ho3 hq1)
          have C2 := hide (varint_eq w3 rb S hr3 hq1 hS HE2.out)
          clear hr3 ho3 C1 HS c2
          go_wp2_with fail
          refine C2.out.mono ?_
          rintro e w4 ⟨rfl, hr4, ho4⟩
          have HS4 := hide (HS3.out.call hr4 ho4 hq2)
          clear hr4 ho4 C2 HS3
          by_cases hoff : t.length ≤ x1 ∨ t.length ≤ x2
          · have HN : Hid (serQ S t p = none) := by
              show _ = _
              rw [HW.out, show n - k = (n - (k + 1)) + 1 by omega]
              exact restQ_off HE1.out HE2.out hoff
            have HS5 := hide HS4.out.turn
            obtain ⟨la, lc, rfl⟩ := own_shape HS4.out.own
            have c2 := Blk.cell HS4.out.rdr (i := 2) rfl
            have f2 := Blk.frozen HS4.out.rdr 2
            have g0 := Blk.cell HS5.out.out (i := 0) rfl
            have g1 := Blk.cell HS5.out.out (i := 1) rfl
            have r0 := Blk.cell HS5.out.res (i := 0) rfl
            have r1 := Blk.cell HS5.out.res (i := 1) rfl
            have z0 := Blk.frozen HS5.out.res 0
            have z1 := Blk.frozen HS5.out.res 1
            have HF : Hid (∀ u v, Near W (w4.setCell ⟨rb, 2, none⟩ (.bool true)) (((w4.setCell ⟨rb, 2, none⟩ (.bool true)).setCell ⟨W.heap.size, 0, none⟩ u).setCell ⟨W.heap.size, 1, none⟩ v)) := fun u v => ((Near.refl W _).set _ 0 u (.inl rfl)).set _ 1 v (.inl rfl)
            clear HW HS4 HE1 HE2
            by_cases ha : t.length ≤ x1
            all_goals
              first
              | (have hai : (t.length : Int) ≤ (x1 : Int) := by omega
                 have had : decide ((t.length : Int) ≤ (x1 : Int)) = true := decide_eq_true hai)
              | (have hai : ¬ (t.length : Int) ≤ (x1 : Int) := by omega
                 have had : decide ((t.length : Int) ≤ (x1 : Int)) = false := decide_eq_false hai
                 have hbi : (t.length : Int) ≤ (x2 : Int) := by omega
                 have hbd : decide ((t.length : Int) ≤ (x2 : Int)) = true := decide_eq_true hbi)
              clear hoff
              go_wp2
              (try simp only [Exit.inBlock, Exit.then])
              refine bodyPost_ret (v := .agg #[.slice la done.length lc, .slice none 0 0]) (by rw [results_cell1Q rfl]; go_simp) rfl ?_
              exact serEnd_none HS5.out (HF.out _ _) rfl HN.out
          · have hl1 : x1 < t.length := by omega
            have hl2 : x2 < t.length := by omega
            obtain ⟨y1, hy1'⟩ : ∃ y, t[x1]? = some y := ⟨_, List.getElem?_eq_getElem hl1⟩
            obtain ⟨y2, hy2'⟩ : ∃ y, t[x2]? = some y := ⟨_, List.getElem?_eq_getElem hl2⟩
            have HNx : Hid (serQ S t p = restQ S t (done ++ [(y1, y2)]) (n - (k + 1)) q2 v2) := by
              show _ = _
              rw [HW.out, show n - k = (n - (k + 1)) + 1 by omega]
              exact restQ_on HE1.out HE2.out hy1' hy2'
            have hcc : ∃ o, ta = some ⟨tb, o, none⟩ ∧ w4.cell? ⟨tb, o + x1, none⟩ = some (.string y1) ∧ w4.cell? ⟨tb, o + x2, none⟩ = some (.string y2) := by
              rcases (HS4.out.texts HT.out htb hne).shape with ⟨h, _⟩ | ⟨o, c, h2, hc⟩
              · rw [h] at hl1; cases hl1
              · cases h2; exact ⟨o, rfl, hc x1 y1 hy1', hc x2 y2 hy2'⟩
            obtain ⟨to, rfl, t1, t2⟩ := hcc
            obtain ⟨la, lc, rfl⟩ := own_shape HS4.out.own
            have g0 := Blk.cell HS4.out.out (i := 0) rfl
            have zf := Blk.frozen HS4.out.out 0
            have g0a : (w4.alloc (.cells #[.string y1, .string y2] 80)).cell? ⟨W.heap.size + 1, 0, none⟩ = some (.slice la done.length lc) := (World.cell?_alloc_old _ _ _ (by have := HS4.out.sz; show W.heap.size + 1 ≠ w4.heap.size; omega)).trans g0
            have hsz := HS4.out.sz
            have hai : ¬ (t.length : Int) ≤ (x1 : Int) := by omega
            have had : decide ((t.length : Int) ≤ (x1 : Int)) = false := decide_eq_false hai
            have hbi : ¬ (t.length : Int) ≤ (x2 : Int) := by omega
            have hbd : decide ((t.length : Int) ≤ (x2 : Int)) = false := decide_eq_false hbi
            have hli1 : (x1 : Int) < (t.length : Int) := by omega
            have hli2 : (x2 : Int) < (t.length : Int) := by omega
            have HOL := hide (World.ownsRow.lt HS4.out.own)
            clear HW HE1 HE2 hoff hy1' hy2' hai hbi
            go_wp2
            have hbl1 : tb < w4.heap.size := World.block_lt_of_cell? w4 _ t1
            have hoLt : W.heap.size + 1 < w4.heap.size := by omega
            refine region_anyL (S := fun w' => w'.cell? ⟨W.heap.size + 1, 0, none⟩ = some (.slice la done.length lc) ∧ w'.cell? ⟨tb, to + x1, none⟩ = some (.string y1) ∧ w'.cell? ⟨tb, to + x2, none⟩ = some (.string y2)) 14 (by kernel_rfl) ⟨g0, t1, t2⟩ (fun hS => ?_)
            refine anyL_take 0 (oi := ?zo0) (v := ?zv0) ?zhi0 (by kernel_rfl) (by kernel_rfl) (by kernel_rfl) (by kernel_rfl) (by kernel_rfl) (by kernel_rfl) ?zq0 (Or.inl ⟨?zwa0, ?zy0⟩) hS ?zrest0
            case zhi0 => simp only [List.getElem?_toArray, List.getElem?_cons_zero]; rfl
            case zwa0 => rfl
            case zy0 => intro wz hz; obtain ⟨z1, z2, z3⟩ := hz; go_simp <;> rfl
            case zq0 => exact fun _ _ _ h => h
            simp only [Act.put, List.setIfInBounds_toArray, List.set_cons_zero, List.set_cons_succ]
            refine anyL_take 1 (oi := ?zo1) (v := ?zv1) ?zhi1 (by kernel_rfl) (by kernel_rfl) (by kernel_rfl) (by kernel_rfl) (by kernel_rfl) (by kernel_rfl) ?zq1 (Or.inl ⟨?zwa1, ?zy1⟩) hS ?zrest1
            case zhi1 => simp only [List.getElem?_toArray, List.getElem?_cons_zero, List.getElem?_cons_succ]; rfl
            case zwa1 => rfl
            case zy1 => intro wz hz; obtain ⟨z1, z2, z3⟩ := hz; go_simp <;> rfl
            case zq1 => exact fun _ _ _ h => h
            simp only [Act.put, List.setIfInBounds_toArray, List.set_cons_zero, List.set_cons_succ]
            refine anyL_take 2 (oi := ?zo2) (v := ?zv2) ?zhi2 (by kernel_rfl) (by kernel_rfl) (by kernel_rfl) (by kernel_rfl) (by kernel_rfl) (by kernel_rfl) ?zq2 (Or.inl ⟨?zwa2, ?zy2⟩) hS ?zrest2
            case zhi2 => simp only [List.getElem?_toArray, List.getElem?_cons_zero, List.getElem?_cons_succ]; rfl
            case zwa2 => rfl
            case zy2 => intro wz hz; obtain ⟨z1, z2, z3⟩ := hz; go_simp <;> rfl
            case zq2 => exact fun _ _ _ h => h
            simp only [Act.put, List.setIfInBounds_toArray, List.set_cons_zero, List.set_cons_succ]
            refine anyL_take 3 (oi := ?zo3) (v := ?zv3) ?zhi3 (by kernel_rfl) (by kernel_rfl) (by kernel_rfl) (by kernel_rfl) (by kernel_rfl) (by kernel_rfl) ?zq3 (Or.inl ⟨?zwa3, ?zy3⟩) hS ?zrest3
            case zhi3 => simp only [List.getElem?_toArray, List.getElem?_cons_zero, List.getElem?_cons_succ]; rfl
            case zwa3 => rfl
            case zy3 => intro wz hz; obtain ⟨z1, z2, z3⟩ := hz; go_simp <;> rfl
            case zq3 => exact fun _ _ _ h => h
            simp only [Act.put, List.setIfInBounds_toArray, List.set_cons_zero, List.set_cons_succ]
            refine anyL_take 4 (oi := ?zo4) (v := ?zv4) ?zhi4 (by kernel_rfl) (by kernel_rfl) (by kernel_rfl) (by kernel_rfl) (by kernel_rfl) (by kernel_rfl) ?zq4 (Or.inl ⟨?zwa4, ?zy4⟩) hS ?zrest4
            case zhi4 => simp only [List.getElem?_toArray, List.getElem?_cons_zero, List.getElem?_cons_succ]; rfl
            case zwa4 => rfl
            case zy4 => intro wz hz; obtain ⟨z1, z2, z3⟩ := hz; go_simp <;> rfl
            case zq4 => exact fun _ _ _ h => h
            simp only [Act.put, List.setIfInBounds_toArray, List.set_cons_zero, List.set_cons_succ]
            refine anyL_take 5 (oi := ?zo5) (v := ?zv5) ?zhi5 (by kernel_rfl) (by kernel_rfl) (by kernel_rfl) (by kernel_rfl) (by kernel_rfl) (by kernel_rfl) ?zq5 (Or.inl ⟨?zwa5, ?zy5⟩) hS ?zrest5
            case zhi5 => simp only [List.getElem?_toArray, List.getElem?_cons_zero, List.getElem?_cons_succ]; rfl
            case zwa5 => rfl
            case zy5 => intro wz hz; obtain ⟨z1, z2, z3⟩ := hz; go_simp <;> rfl
            case zq5 => exact fun _ _ _ h => h
            simp only [Act.put, List.setIfInBounds_toArray, List.set_cons_zero, List.set_cons_succ]
            refine anyL_take 6 (oi := ?zo6) (v := ?zv6) ?zhi6 (by kernel_rfl) (by kernel_rfl) (by kernel_rfl) (by kernel_rfl) (by kernel_rfl) (by kernel_rfl) ?zq6 (Or.inl ⟨?zwa6, ?zy6⟩) hS ?zrest6
            case zhi6 => simp only [List.getElem?_toArray, List.getElem?_cons_zero, List.getElem?_cons_succ]; rfl
            case zwa6 => rfl
            case zy6 => intro wz hz; obtain ⟨z1, z2, z3⟩ := hz; go_simp <;> rfl
            case zq6 => exact fun _ _ _ h => h
            simp only [Act.put, List.setIfInBounds_toArray, List.set_cons_zero, List.set_cons_succ]
            refine anyL_take 7 (oi := ?zo7) (v := ?zv7) ?zhi7 (by kernel_rfl) (by kernel_rfl) (by kernel_rfl) (by kernel_rfl) (by kernel_rfl) (by kernel_rfl) ?zq7 (Or.inl ⟨?zwa7, ?zy7⟩) hS ?zrest7
            case zhi7 => simp only [List.getElem?_toArray, List.getElem?_cons_zero, List.getElem?_cons_succ]; rfl
            case zwa7 => rfl
            case zy7 => intro wz hz; obtain ⟨z1, z2, z3⟩ := hz; go_simp <;> rfl
            case zq7 => exact fun _ _ _ h => h
            simp only [Act.put, List.setIfInBounds_toArray, List.set_cons_zero, List.set_cons_succ]
            refine anyL_take 8 (oi := ?zo8) (v := ?zv8) ?zhi8 (by kernel_rfl) (by kernel_rfl) (by kernel_rfl) (by kernel_rfl) (by kernel_rfl) (by kernel_rfl) ?zq8 (Or.inl ⟨?zwa8, ?zy8⟩) hS ?zrest8
            case zhi8 => simp only [List.getElem?_toArray, List.getElem?_cons_zero, List.getElem?_cons_succ]; rfl
            case zwa8 => rfl
            case zy8 => intro wz hz; obtain ⟨z1, z2, z3⟩ := hz; go_simp <;> rfl
            case zq8 => exact fun _ _ _ h => h
            simp only [Act.put, List.setIfInBounds_toArray, List.set_cons_zero, List.set_cons_succ]
            refine anyL_take 9 (oi := ?zo9) (v := ?zv9) ?zhi9 (by kernel_rfl) (by kernel_rfl) (by kernel_rfl) (by kernel_rfl) (by kernel_rfl) (by kernel_rfl) ?zq9 (Or.inl ⟨?zwa9, ?zy9⟩) hS ?zrest9
            case zhi9 => simp only [List.getElem?_toArray, List.getElem?_cons_zero, List.getElem?_cons_succ]; rfl
            case zwa9 => rfl
            case zy9 => intro wz hz; obtain ⟨z1, z2, z3⟩ := hz; go_simp <;> rfl
            case zq9 => exact fun _ _ _ h => h
            simp only [Act.put, List.setIfInBounds_toArray, List.set_cons_zero, List.set_cons_succ]
            refine anyL_take 10 (oi := ?zo10) (v := ?zv10) ?zhi10 (by kernel_rfl) (by kernel_rfl) (by kernel_rfl) (by kernel_rfl) (by kernel_rfl) (by kernel_rfl) ?zq10 (Or.inl ⟨?zwa10, ?zy10⟩) hS ?zrest10
            case zhi10 => simp only [List.getElem?_toArray, List.getElem?_cons_zero, List.getElem?_cons_succ]; rfl
            case zwa10 => rfl
            case zy10 => intro wz hz; obtain ⟨z1, z2, z3⟩ := hz; go_simp <;> rfl
            case zq10 => exact fun _ _ _ h => h
            simp only [Act.put, List.setIfInBounds_toArray, List.set_cons_zero, List.set_cons_succ]
            refine anyL_one 11 (o := ?zo11) (by kernel_rfl) ?zhi11 (by kernel_rfl) ?zst11
            case zhi11 => simp only [List.getElem?_toArray, List.getElem?_cons_zero, List.getElem?_cons_succ]; rfl
            intro K hK
            go_simp
            refine hK.out _ _ ⟨(World.cell?_of_block (a := ⟨W.heap.size + 1, 0, none⟩) (heap_alloc_old w4.drew _ hoLt)).trans g0, (World.cell?_of_block (a := ⟨tb, to + x1, none⟩) (heap_alloc_old w4.drew _ hbl1)).trans t1, (World.cell?_of_block (a := ⟨tb, to + x2, none⟩) (heap_alloc_old w4.drew _ hbl1)).trans t2⟩ (fun hS2 => ?_)
            clear hK K hS
            refine anyL_one 12 (o := ?zo12) (by kernel_rfl) ?zhi12 (by kernel_rfl) ?zst12
            case zhi12 => simp only [List.getElem?_toArray, List.getElem?_cons_zero, List.getElem?_cons_succ]; rfl
            intro K hK
            rw [if_pos (by rfl)]
            refine wp_append_heir _ (.tmp 51) (.tmp 61) 36 rfl (W.heap.size + 2) 80 i1 _ 2 32 Tryz.underlying36 hi1 hy0 hy1 hy2 rfl (by decide) (.slice la done.length lc) done.length (labCells done) rfl (own_alloc (own_drewN HS4.out.own 1) _) ⟨w4.heap.size, 0, none⟩ 1 1 [.string y1, .string y2] rfl rfl (cells_new w4.drew _ _) (one_two rfl rfl) (by unfold maxLen; omega) (by omega) (by simp; omega) ?_
            intro v' w5 ho5 hg5 hh5
            obtain ⟨sa', sc', rfl⟩ := own_shape ho5
            have hb5 : ∀ q, q = W.heap.size + 1 ∨ q = tb → w5.heap[q]? = w4.heap[q]? := fun q hq => by
              have hqW : q < w4.heap.size := by omega
              rw [hg5.block q (by simp; omega) (fun e => by have := (HOL.out q e.symm).1; omega)]
              exact heap_alloc_old w4.drew _ hqW
            have hc5 := (World.cell?_of_block (a := ⟨W.heap.size + 1, 0, none⟩) (hb5 _ (.inl rfl))).trans g0
            have fr5 := (World.frozen?_of_block (a := ⟨W.heap.size + 1, 0, none⟩) (hb5 _ (.inl rfl))).trans zf
            refine hK.out _ _ ⟨hc5, (World.cell?_of_block (a := ⟨tb, to + x1, none⟩) (hb5 _ (.inr rfl))).trans t1, (World.cell?_of_block (a := ⟨tb, to + x2, none⟩) (hb5 _ (.inr rfl))).trans t2⟩ (fun hS3 => ?_)
            have HS5 : Hid (SerSt W (w5.setCell ⟨W.heap.size + 1, 0, none⟩ (.slice sa' (done.length + 1) sc')) rb S q2 v2 (.slice sa' (done.length + 1) sc') (done ++ [(y1, y2)])) := HS4.out.grow (w1 := w4.drew.alloc (.cells #[.string y1, .string y2] 80)) (x := (y1, y2)) (fun k hk => heap_alloc_old w4.drew _ hk) ⟨rfl, rfl, rfl, by simp⟩ hg5 ho5 (fun k e => (World.ownsRow.lt ho5 k e).1)
            clear hK K hS2 hb5 ho5 hg5 hh5 HS4 HOL g0 g0a zf
            simp only [Act.put, List.setIfInBounds_toArray, List.set_cons_zero, List.set_cons_succ]
            refine anyL_take 13 (oi := ?zo13) (v := ?zv13) ?zhi13 (by kernel_rfl) (by kernel_rfl) (by kernel_rfl) (by kernel_rfl) (by kernel_rfl) (by kernel_rfl) ?zq13 (Or.inl ⟨?zwa13, ?zy13⟩) hS3 ?zrest13
            case zhi13 => simp only [List.getElem?_toArray, List.getElem?_cons_zero, List.getElem?_cons_succ]; rfl
            case zwa13 => rfl
            case zy13 => intro wz hz; obtain ⟨z1, z2, z3⟩ := hz; go_simp <;> rfl
            case zq13 => exact fun _ _ _ h => h
            simp only [Act.put, List.setIfInBounds_toArray, List.set_cons_zero, List.set_cons_succ]
            refine anyL_last 14 (o := ?zo14) (by kernel_rfl) ?zhi14 (by kernel_rfl) (by kernel_rfl) ?zst14
            case zhi14 => simp only [List.getElem?_toArray, List.getElem?_cons_zero, List.getElem?_cons_succ]; rfl
            intro K hK
            go_simp
            refine hK.out _ _ ?_
            clear hK K hS3
            go_wp2
            go_roundw
            case rel => exact ⟨k + 1, q2, v2, _, done ++ [(y1, y2)], by omega, by go_num, by simp; omega, fun h => absurd h h5, HS5.out, HNx.out⟩
            case measure => simp [intOf]; omega
      · clear H4
        have HX : Hid (serQ S t p = (mQ S q bb).map fun r => ((done, r.1), r.2)) := by
          show _ = _
          rw [HW.out]
          cases bb with
          | true => rw [restQ_bad, mQ_bad]; rfl
          | false =>
            rw [show n - k = 0 by have : ¬ k < n := fun h => hgo ⟨h, rfl⟩; omega]
            exact restQ_end S t done q false
        obtain ⟨c, q1, v1, e1⟩ : ∃ x y b, vR S q bb = (x, y, b) := ⟨_, _, _, rfl⟩
        obtain ⟨z, q2, v2, e2⟩ : ∃ x y b, vR S q1 v1 = (x, y, b) := ⟨_, _, _, rfl⟩
        obtain ⟨X, q3, v3, e3⟩ : ∃ x y b, partR S q2 v2 z = (x, y, b) := ⟨_, _, _, rfl⟩
        obtain ⟨hc1, hq1⟩ := vR_eq e1 HS.out.hp
        obtain ⟨hz1, hq2⟩ := vR_eq e2 hq1
        obtain ⟨hq3, hX, hX0⟩ := partR_eq e3 hq2
        have HY : Hid (serQ S t p = (samplesQ X c).map fun l => ((done, l), q3)) := by
          show _ = _
          rw [HX.out, mQ_eq e1 e2 e3]
          cases samplesQ X c <;> rfl
        have HX0 := hide hX0
        have C1 := hide (varint_eq wr rb S HS.out.rdr HS.out.hp hS e1)
        have HE2 := hide e2
        have HE3 := hide e3
        have HBT : Hid (k < n → bb = true) := fun h => by
          cases bb with
          | true => rfl
          | false => exact absurd ⟨h, rfl⟩ hgo
        clear e1 e2 e3 hX0 HX HW hgo
        rcases Nat.lt_or_ge k n with hlt | hge
        all_goals
          first
          | (have hbb := HBT.out hlt
             subst hbb)
          | (have hnl : ¬ k < n := by omega
             clear c2)
          clear HBT
          go_wp2_with fail
          refine C1.out.mono ?_
          rintro e w3 ⟨rfl, hr3, ho3⟩
          have HS3 := hide (HS.out.call hr3 ho3 hq1)
          have C2 := hide (varint_eq w3 rb S hr3 hq1 hS HE2.out)
          clear hr3 ho3 C1 HS HE2
          go_wp2_with fail
          refine C2.out.mono ?_
          rintro e w4 ⟨rfl, hr4, ho4⟩
          have HS4 := hide (HS3.out.call hr4 ho4 hq2)
          have C3 := hide (part_eq w4 rb S hr4 hq2 hS hz1 HE3.out)
          clear hr4 ho4 C2 HS3 HE3
          go_wp2_with fail
          refine C3.out.mono ?_
          rintro e w5 ⟨rfl, hr5, ho5⟩
          have HS5 := hide (HS4.out.call hr5 ho5 hq3)
          have C4 := hide (samplesRd_any w5 X c (by omega) (by omega))
          clear hr5 ho5 C3 HS4
          go_wp2_with fail
          refine C4.out.mono ?_
          rintro e w6 ⟨⟨sa, sm, sc, ok, rfl, hno, hso⟩, hb6⟩
          have HS6 := hide (HS5.out.kept hb6)
          have hs5 := HS5.out.sz
          have HNo := hide hno
          have HSo := hide hso
          clear hno hso hb6 C4 HS5
          obtain ⟨la, lc, rfl⟩ := own_shape HS6.out.own
          cases ok with
          | true =>
            have HL : Hid (∃ l, samplesQ X c = some l) := by
              cases hs : samplesQ X c with
              | none => exact absurd (HNo.out hs) (by decide)
              | some l => exact ⟨l, rfl⟩
            obtain ⟨l, hl⟩ := HL.out
            have HQ : Hid (serQ S t p = some ((done, l), q3)) := by show _ = _; rw [HY.out, hl]; rfl
            have HO := hide (own_mono (HSo.out l hl).2 hs5)
            have HV3 : Hid (v3 = false) := by
              cases v3 with
              | false => rfl
              | true => have h1 := samplesQ_size hl; have h2 := HX0.out rfl; omega
            have g0 := Blk.cell HS6.out.out (i := 0) rfl
            have g1 := Blk.cell HS6.out.out (i := 1) rfl
            have y1 := Blk.frozen HS6.out.out 1
            have r0 := Blk.cell HS6.out.res (i := 0) rfl
            have r1 := Blk.cell HS6.out.res (i := 1) rfl
            have z0 := Blk.frozen HS6.out.res 0
            have z1 := Blk.frozen HS6.out.res 1
            have HF : Hid (∀ u v u0, Near W w6 (((w6.setCell ⟨W.heap.size + 1, 1, none⟩ u0).setCell ⟨W.heap.size, 0, none⟩ u).setCell ⟨W.heap.size, 1, none⟩ v)) := fun u v u0 => (((Near.refl W _).set _ 1 u0 (.inr rfl)).set _ 0 u (.inl rfl)).set _ 1 v (.inl rfl)
            clear hl HL HNo HSo HY HX0
            go_wp2
            (try simp only [Exit.inBlock, Exit.then])
            refine bodyPost_ret (v := .agg #[.slice la done.length lc, .slice sa sm sc]) (by rw [results_cell1Q rfl]; go_simp) rfl ?_
            exact serEnd_some HS6.out (HF.out _ _ _) HV3.out HQ.out HO.out
          | false =>
            have HQ : Hid (serQ S t p = none) := by
              show _ = _
              rw [HY.out]
              cases hs : samplesQ X c with
              | none => rfl
              | some l => exact absurd (HSo.out l hs).1 (by decide)
            have HS7 := hide HS6.out.turn
            have c2 := Blk.cell HS6.out.rdr (i := 2) rfl
            have f2 := Blk.frozen HS6.out.rdr 2
            have g0 := Blk.cell HS7.out.out (i := 0) rfl
            have g1 := Blk.cell HS7.out.out (i := 1) rfl
            have y1 := Blk.frozen HS7.out.out 1
            have r0 := Blk.cell HS7.out.res (i := 0) rfl
            have r1 := Blk.cell HS7.out.res (i := 1) rfl
            have z0 := Blk.frozen HS7.out.res 0
            have z1 := Blk.frozen HS7.out.res 1
            have HF : Hid (∀ u v u0, Near W (w6.setCell ⟨rb, 2, none⟩ (.bool true)) ((((w6.setCell ⟨rb, 2, none⟩ (.bool true)).setCell ⟨W.heap.size + 1, 1, none⟩ u0).setCell ⟨W.heap.size, 0, none⟩ u).setCell ⟨W.heap.size, 1, none⟩ v)) := fun u v u0 => (((Near.refl W _).set _ 1 u0 (.inr rfl)).set _ 0 u (.inl rfl)).set _ 1 v (.inl rfl)
            clear HNo HSo HY HX0 HS6
            go_wp2
            (try simp only [Exit.inBlock, Exit.then])
            refine bodyPost_ret (v := .agg #[.slice la done.length lc, .slice sa sm sc]) (by rw [results_cell1Q rfl]; go_simp) rfl ?_
            exact serEnd_none HS7.out (HF.out _ _ _) rfl HQ.out
end Go.Proofs.YtamcclcbmenjdaaGreatDoor

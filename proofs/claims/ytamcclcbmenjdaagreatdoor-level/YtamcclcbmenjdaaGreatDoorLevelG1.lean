/- 'choirkeep.Level', for any list of steps (100 of them are done): when all are up, nothing is under way, and each has told each other one, all have the same, and compacted logs are the same bytes. The first form's statement and its card: no condition beside the row's own. -/
import Derived.WalkKit
import Derived.WalkSpells
import Derived.Test.YtamcclcbmenjdaaGreatDoorProg
import Derived.WalkLawsBesides
import Derived.BigRegion
import Derived.BigQuiet
import Derived.Deep.QuietTactic
import Derived.Deep.RegionLaw
import Derived.Deep.Cut
import Derived.Deep.RegionHeld3
import Derived.Laws.BitsLemmas
import Derived.Laws.Bits64
import Derived.Laws.Bits64b
/- Slices that are appended to, with the block that they live in: the same as before, or a new one. Laws on worlds; no program. -/
namespace Go.Proofs.YtamcclcbmenjdaaGreatDoor
open Go.RowKit

/-- v' lives where v lived, or in a block that was not there in w. -/
def Heir (w : World) (v v' : Value) : Prop := v'.ownBlock = v.ownBlock ∨ ∃ k, v'.ownBlock = some k ∧ w.heap.size ≤ k

theorem Heir.refl (w : World) (v : Value) : Heir w v v := .inl rfl
theorem Heir.trans {w w1 : World} {v v1 v2 : Value} (h : Heir w v v1) (k : Heir w1 v1 v2) (hs : w.heap.size ≤ w1.heap.size) : Heir w v v2 := by
  rcases k with k | ⟨b, k, hb⟩
  · rcases h with h | ⟨c, h, hc⟩
    · exact .inl (k.trans h)
    · exact .inr ⟨c, k.trans h, hc⟩
  · exact .inr ⟨b, k, by omega⟩
theorem grownBy_refl (w : World) (r : Option Nat) : w.grownBy w r := ⟨rfl, rfl, rfl, Nat.le_refl _, fun _ _ _ => rfl⟩
theorem grownBy_trans {w w1 w2 : World} {v v1 : Value} (h : w.grownBy w1 v.ownBlock) (k : w1.grownBy w2 v1.ownBlock) (hh : Heir w v v1) : w.grownBy w2 v.ownBlock := by
  refine ⟨k.os.trans h.os, k.tape.trans h.tape, k.output.trans h.output, Nat.le_trans h.size k.size, fun i hi hne => ?_⟩
  rw [k.block i (Nat.lt_of_lt_of_le hi h.size) ?_, h.block i hi hne]
  rcases hh with hh | ⟨b, hh, hb⟩
  · rw [hh]; exact hne
  · rw [hh]; intro e; have := Option.some.inj e; omega
theorem grownBy_alloc_then {w w2 : World} {r : Option Nat} {o : Obj} (k : (w.alloc o).grownBy w2 r) : w.grownBy w2 r := by
  refine ⟨k.os, k.tape, k.output, by have := k.size; simp at this; omega, fun i hi hne => ?_⟩
  rw [k.block i (by simp; omega) hne]
  exact heap_alloc_old w o hi
theorem Heir.of_alloc {w : World} {o : Obj} {v v' : Value} (h : Heir (w.alloc o) v v') : Heir w v v' := by
  rcases h with h | ⟨b, h, hb⟩
  · exact .inl h
  · exact .inr ⟨b, h, by simp at hb; omega⟩

section
variable {P : Program} (w : World)

theorem run_append_heir (base : Nat) (t ty e : TypeId) (i : TypeInfo) (z : Value) (size bytes : Nat) (ht : P.underlying t = some (.slice e)) (hi : P.info? e = some i) (hz : i.zero = some z)
    (hsize : i.size = size) (hby : i.bytes = bytes) (hzs : z.cells.size = size) (hsz : 0 < size)
    (v : Value) (n : Nat) (xs : List Value) (hown : w.ownsRow base e size v n xs)
    (a : Addr) (m c : Nat) (news : List Value) (hl : news.length = m * size) (hnews : ∀ j u, news[j]? = some u → w.cell? (a.add j) = some u) (h1 : ∀ u ∈ news, u.oneCell' = true)
    (h63 : n + m ≤ maxLen) (hbytes : (n + m) * bytes ≤ 140737488355328) (hbase : base ≤ w.heap.size) :
    ∃ v' w', (Builtin.append_ #[t, t] ty #[v, .slice (some a) m c]).run P w = .ok v' w' ∧ w'.ownsRow base e size v' (n + m) (xs ++ news) ∧ w.grownBy w' v.ownBlock ∧ Heir w v v' := by
  obtain ⟨v', w', hr, ho, hg, hn⟩ := run_append_own (P := P) w base t ty e i z size bytes ht hi hz hsize hby hzs hsz v n xs hown a m c news hl hnews h1 h63 hbytes hbase
  refine ⟨v', w', hr, ho, hg, ?_⟩
  rcases hown.2 with ⟨rfl, rfl⟩ | ⟨g, cap, cur, rfl, hbg, hgg, hnc, hcm, hcs, htake⟩
  · have hx : xs = [] := List.eq_nil_of_length_eq_zero (by simpa using hown.1)
    subst hx
    obtain ⟨v2, w2, hr2, ho2, _, _⟩ := run_append_own (P := P) w w.heap.size t ty e i z size bytes ht hi hz hsize hby hzs hsz (.slice none 0 0) 0 [] (World.ownsRow_nil _ _ _ _) a m c news hl hnews h1 h63 hbytes (Nat.le_refl _)
    rw [hr] at hr2
    cases hr2
    rcases ho2.2 with ⟨rfl, _⟩ | ⟨g, cap, cur, rfl, hb, _⟩
    · exact .inl rfl
    · exact .inr ⟨g, rfl, hb⟩
  · by_cases hroom : n + m ≤ cap
    · obtain ⟨w2, hr2, _⟩ := run_append_fits (P := P) w base t ty e i size ht hi hsize g n cap xs hown a m c news hl hnews h1 hroom
      rw [hr] at hr2
      cases hr2
      exact .inl rfl
    · subst hsize
      subst hby
      have holds : ∀ j u, xs[j]? = some u → w.cell? ((⟨g, 0, none⟩ : Addr).add j) = some u := hown.cells (g := g) rfl
      have hr2 := run_append_grow (P := P) w t ty e i z ht hi hz ⟨g, 0, none⟩ n cap xs hown.1 holds a m c news hl hnews (by omega) (by simp only [maxLen] at h63; omega) (growslice_fits (by simp only [maxLen] at h63; omega) hbytes)
      rw [hr] at hr2
      cases hr2
      exact .inr ⟨_, rfl, Nat.le_refl _⟩

theorem wpList_append_heir {ops : Array Oper} {rest : List Oper} {o : Oper} {a : Act} {Q : Exit → Act → World → Prop} (hgd : o.guard = none) (s x : Operand) (t : TypeId)
    (ho : o.op = .call { callee := .builtin .append, args := #[s, x], argTypes := #[t, t] })
    (base : Nat) (e : TypeId) (i : TypeInfo) (z : Value) (size bytes : Nat) (ht : P.underlying t = some (.slice e)) (hi : P.info? e = some i) (hz : i.zero = some z)
    (hsize : i.size = size) (hby : i.bytes = bytes) (hzs : z.cells.size = size) (hsz : 0 < size)
    (v : Value) (n : Nat) (xs : List Value) (hs : a.eval s = v) (hown : w.ownsRow base e size v n xs)
    (ad : Addr) (m c : Nat) (news : List Value) (hx : a.eval x = .slice (some ad) m c) (hl : news.length = m * size) (hnews : ∀ j u, news[j]? = some u → w.cell? (ad.add j) = some u) (h1 : ∀ u ∈ news, u.oneCell' = true)
    (h63 : n + m ≤ maxLen) (hbytes : (n + m) * bytes ≤ 140737488355328) (hbase : base ≤ w.heap.size)
    (h : ∀ v' w', w'.ownsRow base e size v' (n + m) (xs ++ news) → w.grownBy w' v.ownBlock → Heir w v v' → wpList P ops Q rest (a.put o.dst v') w') : wpList P ops Q (o :: rest) a w := by
  refine wpList_plain hgd fun K hK => ?_
  obtain ⟨v', w', hr, h2, h3, h4⟩ := run_append_heir (P := P) w base t o.type e i z size bytes ht hi hz hsize hby hzs hsz v n xs hown ad m c news hl hnews h1 h63 hbytes hbase
  unfold Oper.wp execOp
  simp only [ho, resolve, invoke, builtin, Sem.run_bind, Sem.run_pure, Result.andThen_ok, List.map_toArray, List.map_cons, List.map_nil, hs, hx, hr]
  exact hK _ _ (h v' w' h2 h3 h4)
end
end Go.Proofs.YtamcclcbmenjdaaGreatDoor

/- Words for what lies in memory: lists of labels, of samples, of series; rows of the call's own. -/
namespace Go.Proofs.YtamcclcbmenjdaaGreatDoor
open Go.RowKit Go.Lib

/-- The number in a value that is one. -/
def intOf : Value → Int
  | .int _ q => q
  | _ => 0
theorem ret_int {k : IntKind} {a b : Int} (h : a = b) : Ending.returned (.int k a) = .returned (.int k b) := by rw [h]
theorem hide {p : Prop} (h : p) : Hid p := h
/-- The value of a slice that owns something. -/
theorem ownsRow_some {base : Nat} {w : World} {e : TypeId} {v : Value} {n : Nat} {xs : List Value} (h : w.ownsRow base e 1 v n xs) (hn : 0 < n) : ∃ g cap, v = .slice (some ⟨g, 0, none⟩) n cap ∧ base ≤ g := by
  rcases h.2 with ⟨_, h0⟩ | ⟨g, cap, cur, hv, hb, _⟩
  · omega
  · exact ⟨g, cap, hv, hb⟩
/-- A slice value whose samples lie below block B. -/
def SamplesAt (w : World) (B : Nat) (v : Value) (l : List (Int × Nat)) : Prop :=
  ∃ a cap, v = .slice a l.length cap ∧ l.length ≤ cap ∧ (∀ x ∈ l, -9223372036854775808 ≤ x.1 ∧ x.1 ≤ 9223372036854775807 ∧ x.2 ≤ 18446744073709551615) ∧
    (l = [] ∨ ∃ b o, a = some ⟨b, o, none⟩ ∧ b < B ∧ ∀ i x, l[i]? = some x → w.cell? ⟨b, o + i * 2, none⟩ = some (.int .i64 x.1) ∧ w.cell? ⟨b, o + i * 2 + 1, none⟩ = some (.int .u64 x.2))
theorem SamplesAt.below {w w' : World} {B B' : Nat} {v : Value} {l : List (Int × Nat)} (h : SamplesAt w B v l) (hb : Below B' w w') (hB : B ≤ B') : SamplesAt w' B v l := by
  obtain ⟨a, cap, hv, hc, hr, h2⟩ := h
  refine ⟨a, cap, hv, hc, hr, ?_⟩
  rcases h2 with h2 | ⟨b, o, ha, hbB, hcell⟩
  · exact .inl h2
  · refine .inr ⟨b, o, ha, hbB, fun i x hx => ?_⟩
    obtain ⟨h1, h2⟩ := hcell i x hx
    exact ⟨(hb.cell (p := ⟨b, o + i * 2, none⟩) (by show b < B'; omega)).trans h1, (hb.cell (p := ⟨b, o + i * 2 + 1, none⟩) (by show b < B'; omega)).trans h2⟩
/-- A slice value whose labels lie below block B. -/
def LabelsAt (w : World) (B : Nat) (v : Value) (l : List (ByteArray × ByteArray)) : Prop :=
  ∃ a cap, v = .slice a l.length cap ∧ l.length ≤ cap ∧
    (l = [] ∨ ∃ b o, a = some ⟨b, o, none⟩ ∧ b < B ∧ ∀ i x, l[i]? = some x → w.cell? ⟨b, o + i * 2, none⟩ = some (.string x.1) ∧ w.cell? ⟨b, o + i * 2 + 1, none⟩ = some (.string x.2))
theorem LabelsAt.kept {w w' : World} {B : Nat} {v : Value} {l : List (ByteArray × ByteArray)} (h : LabelsAt w B v l) (hk : ∀ k, k < B → w'.heap[k]? = w.heap[k]?) : LabelsAt w' B v l := by
  obtain ⟨a, cap, hv, hc, h2⟩ := h
  refine ⟨a, cap, hv, hc, ?_⟩
  rcases h2 with h2 | ⟨b, o, ha, hbB, hcell⟩
  · exact .inl h2
  · refine .inr ⟨b, o, ha, hbB, fun i x hx => ?_⟩
    obtain ⟨h1, h2⟩ := hcell i x hx
    exact ⟨(World.cell?_of_block (a := ⟨b, o + i * 2, none⟩) (hk b hbB)).trans h1, (World.cell?_of_block (a := ⟨b, o + i * 2 + 1, none⟩) (hk b hbB)).trans h2⟩
theorem SamplesAt.kept {w w' : World} {B : Nat} {v : Value} {l : List (Int × Nat)} (h : SamplesAt w B v l) (hk : ∀ k, k < B → w'.heap[k]? = w.heap[k]?) : SamplesAt w' B v l := by
  obtain ⟨a, cap, hv, hc, hr, h2⟩ := h
  refine ⟨a, cap, hv, hc, hr, ?_⟩
  rcases h2 with h2 | ⟨b, o, ha, hbB, hcell⟩
  · exact .inl h2
  · refine .inr ⟨b, o, ha, hbB, fun i x hx => ?_⟩
    obtain ⟨h1, h2⟩ := hcell i x hx
    exact ⟨(World.cell?_of_block (a := ⟨b, o + i * 2, none⟩) (hk b hbB)).trans h1, (World.cell?_of_block (a := ⟨b, o + i * 2 + 1, none⟩) (hk b hbB)).trans h2⟩
theorem grownBy_of_below {w w' : World} (r : Option Nat) (h : Below w.heap.size w w') : w.grownBy w' r := ⟨h.os, h.tape, h.output, h.size, fun k hk _ => h.block k hk⟩
abbrev Lab := ByteArray × ByteArray
abbrev Ser := List (ByteArray × ByteArray) × List (Int × Nat)
/-- A slice value whose series lie below block B, all that they hold too. -/
def BatchAt (w : World) (B : Nat) (v : Value) (bs : List Ser) : Prop :=
  ∃ a cap, v = .slice a bs.length cap ∧ bs.length ≤ cap ∧
    (bs = [] ∨ ∃ b o, a = some ⟨b, o, none⟩ ∧ b < B ∧ ∀ i x, bs[i]? = some x → ∃ lv sv, w.cell? ⟨b, o + i * 2, none⟩ = some lv ∧ w.cell? ⟨b, o + i * 2 + 1, none⟩ = some sv ∧ LabelsAt w B lv x.1 ∧ SamplesAt w B sv x.2)
theorem BatchAt.kept {w w' : World} {B : Nat} {v : Value} {bs : List Ser} (h : BatchAt w B v bs) (hk : ∀ k, k < B → w'.heap[k]? = w.heap[k]?) : BatchAt w' B v bs := by
  obtain ⟨a, cap, hv, hc, h2⟩ := h
  refine ⟨a, cap, hv, hc, ?_⟩
  rcases h2 with h2 | ⟨b, o, ha, hbB, hcell⟩
  · exact .inl h2
  · refine .inr ⟨b, o, ha, hbB, fun i x hx => ?_⟩
    obtain ⟨lv, sv, h1, h2, h3, h4⟩ := hcell i x hx
    exact ⟨lv, sv, (World.cell?_of_block (a := ⟨b, o + i * 2, none⟩) (hk b hbB)).trans h1, (World.cell?_of_block (a := ⟨b, o + i * 2 + 1, none⟩) (hk b hbB)).trans h2, h3.kept hk, h4.kept hk⟩
theorem Tryz.infoStr : (Tryz.prog.info? 9).map (fun i => (i.zero, i.size, i.bytes)) = some (some (.string ByteArray.empty), 1, 16) := by kernel_rfl
def Strs (l : List ByteArray) : List Value := l.map Value.string
theorem Tryz.infoLab : (Tryz.prog.info? 80).map (fun i => (i.zero, i.size, i.bytes)) = some (some (.agg #[.string ByteArray.empty, .string ByteArray.empty]), 2, 32) := by kernel_rfl
/-- A row of the call's own, where its block is as it was. -/
theorem own_kept {base e size n : Nat} {w w' : World} {v : Value} {xs : List Value} (h : w.ownsRow base e size v n xs) (hk : ∀ k, v.ownBlock = some k → w'.heap[k]? = w.heap[k]?) : w'.ownsRow base e size v n xs := by
  refine ⟨h.1, ?_⟩
  rcases h.2 with h2 | ⟨g, cap, cur, hv, hg, hh, r⟩
  · exact .inl h2
  · exact .inr ⟨g, cap, cur, hv, hg, by rw [hk g (by rw [hv]; rfl)]; exact hh, r⟩
theorem own_alloc {base e size n : Nat} {w : World} {v : Value} {xs : List Value} (h : w.ownsRow base e size v n xs) (ob : Obj) : (w.alloc ob).ownsRow base e size v n xs :=
  own_kept h fun k hk => heap_alloc_old w ob (World.ownsRow.lt h k hk).2
theorem cells_new (w : World) (l : List Value) (t : TypeId) : ∀ j u, l[j]? = some u → (w.alloc (.cells l.toArray t)).cell? ((⟨w.heap.size, 0, none⟩ : Addr).add j) = some u := by
  intro j u h
  have e : (⟨w.heap.size, 0, none⟩ : Addr).add j = ⟨w.heap.size, j, none⟩ := by simp [Addr.add]; exact fun h => h.symm
  rw [e, World.cell?_alloc_new]
  simpa using h
theorem one_two {x y : Value} (hx : x.oneCell' = true) (hy : y.oneCell' = true) : ∀ u ∈ [x, y], u.oneCell' = true := by
  intro u hu
  rcases List.mem_cons.1 hu with rfl | hu
  · exact hx
  · rw [List.mem_singleton.1 hu]; exact hy
theorem one_one {x : Value} (hx : x.oneCell' = true) : ∀ u ∈ [x], u.oneCell' = true := by
  intro u hu
  rw [List.mem_singleton.1 hu]; exact hx
def labCells (l : List Lab) : List Value := l.flatMap fun x => [.string x.1, .string x.2]
theorem labCells_snoc (l : List Lab) (x : Lab) : labCells (l ++ [x]) = labCells l ++ [.string x.1, .string x.2] := by simp [labCells]
theorem Tryz.infoSam : (Tryz.prog.info? 34).map (fun i => (i.zero, i.size, i.bytes)) = some (some (.agg #[.int .i64 0, .int .u64 0]), 2, 16) := by kernel_rfl
def samCells (l : List (Int × Nat)) : List Value := l.flatMap fun x => [.int .i64 x.1, .int .u64 x.2]
theorem samCells_snoc (l : List (Int × Nat)) (x : Int × Nat) : samCells (l ++ [x]) = samCells l ++ [.int .i64 x.1, .int .u64 x.2] := by simp [samCells]
theorem own_mono {base base' e size n : Nat} {w : World} {v : Value} {xs : List Value} (h : w.ownsRow base e size v n xs) (hb : base' ≤ base) : w.ownsRow base' e size v n xs := by
  refine ⟨h.1, ?_⟩
  rcases h.2 with h2 | ⟨g, cap, cur, hv, hg, r⟩
  · exact .inl h2
  · exact .inr ⟨g, cap, cur, hv, Nat.le_trans hb hg, r⟩
theorem below_grownAt {B : Nat} {w w1 w2 : World} {r : Option Nat} (h : Below B w w1) (k : w1.grownBy w2 r) (hB : B ≤ w1.heap.size) (hr : ∀ b, r = some b → B ≤ b) : Below B w w2 :=
  h.trans ⟨k.os, k.tape, k.output, k.size, fun i hi => k.block i (by omega) (fun e => by have := hr i e.symm; omega)⟩
theorem Tryz.infoSer : (Tryz.prog.info? 38).map (fun i => (i.zero, i.size, i.bytes)) = some (some (.agg #[.slice none 0 0, .slice none 0 0]), 2, 48) := by kernel_rfl
def serCells (l : List (Value × Value)) : List Value := l.flatMap fun x => [x.1, x.2]
theorem serCells_snoc (l : List (Value × Value)) (x : Value × Value) : serCells (l ++ [x]) = serCells l ++ [x.1, x.2] := by simp [serCells]
theorem own_shape {base e size n : Nat} {w : World} {v : Value} {xs : List Value} (h : w.ownsRow base e size v n xs) : ∃ a c, v = .slice a n c := by
  rcases h.2 with ⟨rfl, rfl⟩ | ⟨g, cap, cur, rfl, _⟩ <;> exact ⟨_, _, rfl⟩
/-- Series of the call's own, each with lists of its own. -/
def Sers (w : World) (base : Nat) (vals : List (Value × Value)) (bs : List Ser) : Prop :=
  vals.length = bs.length ∧ ∀ (i : Nat) (p : Value × Value) (x : Ser), vals[i]? = some p → bs[i]? = some x → w.ownsRow base 80 2 p.1 x.1.length (labCells x.1) ∧ w.ownsRow base 34 2 p.2 x.2.length (samCells x.2)
theorem Sers.kept {w w' : World} {base : Nat} {vals : List (Value × Value)} {bs : List Ser} (h : Sers w base vals bs) (hk : ∀ k, base ≤ k → k < w.heap.size → w'.heap[k]? = w.heap[k]?) : Sers w' base vals bs :=
  ⟨h.1, fun i p x hp hx => ⟨own_kept (h.2 i p x hp hx).1 fun k e => hk k (World.ownsRow.lt (h.2 i p x hp hx).1 k e).1 (World.ownsRow.lt (h.2 i p x hp hx).1 k e).2,
    own_kept (h.2 i p x hp hx).2 fun k e => hk k (World.ownsRow.lt (h.2 i p x hp hx).2 k e).1 (World.ownsRow.lt (h.2 i p x hp hx).2 k e).2⟩⟩
theorem Sers.nil (w : World) (base : Nat) : Sers w base [] [] := ⟨rfl, fun i p x h => by simp at h⟩
theorem Sers.snoc {w : World} {base : Nat} {vals : List (Value × Value)} {bs : List Ser} {p : Value × Value} {x : Ser} (h : Sers w base vals bs) (h1 : w.ownsRow base 80 2 p.1 x.1.length (labCells x.1)) (h2 : w.ownsRow base 34 2 p.2 x.2.length (samCells x.2)) :
    Sers w base (vals ++ [p]) (bs ++ [x]) := by
  refine ⟨by simp [h.1], fun i q y hq hy => ?_⟩
  by_cases hi : i < vals.length
  · rw [List.getElem?_append_left hi] at hq
    rw [List.getElem?_append_left (by rw [← h.1]; exact hi)] at hy
    exact h.2 i q y hq hy
  · have hi2 : i < vals.length + 1 := by
      have := (List.getElem?_eq_some_iff.1 hq).1; simpa using this
    have e : i = vals.length := by omega
    subst e
    rw [List.getElem?_append_right (Nat.le_refl _), Nat.sub_self] at hq
    rw [h.1, List.getElem?_append_right (Nat.le_refl _), Nat.sub_self] at hy
    cases hq
    cases hy
    exact ⟨h1, h2⟩
/-- A batch of the call's own memory. -/
def Fresh (w : World) (base : Nat) (v : Value) (bs : List Ser) : Prop :=
  ∃ vals, w.ownsRow base 38 2 v bs.length (serCells vals) ∧ Sers w base vals bs
theorem own_cell {base e size n : Nat} {w : World} {g cap : Nat} {xs : List Value} (h : w.ownsRow base e size (.slice (some ⟨g, 0, none⟩) n cap) n xs) {j : Nat} {u : Value} (hu : xs[j]? = some u) : w.cell? ⟨g, j, none⟩ = some u := by
  have := h.cells (g := g) rfl j u hu
  have e : (⟨g, 0, none⟩ : Addr).add j = ⟨g, j, none⟩ := by simp [Addr.add]; exact fun h => h.symm
  rw [e] at this; exact this
theorem pair_get {α : Type} (f g : α → Value) (l : List α) : ∀ (i : Nat) (x : α), l[i]? = some x → (l.flatMap fun x => [f x, g x])[i * 2]? = some (f x) ∧ (l.flatMap fun x => [f x, g x])[i * 2 + 1]? = some (g x) := by
  induction l with
  | nil => intro i x h; simp at h
  | cons y r ih =>
    intro i x h
    cases i with
    | zero => simp only [List.getElem?_cons_zero, Option.some.injEq] at h; subst h; simp
    | succ i =>
      simp only [List.getElem?_cons_succ] at h
      have := ih i x h
      rw [show (i + 1) * 2 = i * 2 + 1 + 1 by omega]
      simpa using this
theorem labels_at {base : Nat} {w : World} {v : Value} {l : List Lab} (h : w.ownsRow base 80 2 v l.length (labCells l)) : LabelsAt w w.heap.size v l := by
  have hlt := fun k e => (World.ownsRow.lt h k e).2
  rcases h.2 with ⟨rfl, h0⟩ | ⟨g, cap, cur, rfl, hg, hh, hc, _⟩
  · exact ⟨none, 0, by rw [h0], by omega, .inl (List.eq_nil_of_length_eq_zero h0)⟩
  · refine ⟨_, cap, rfl, hc, .inr ⟨g, 0, rfl, hlt g rfl, fun i x hx => ?_⟩⟩
    have := pair_get (fun x : Lab => .string x.1) (fun x => .string x.2) l i x hx
    rw [Nat.zero_add]
    exact ⟨own_cell h this.1, own_cell h this.2⟩
theorem samples_at {base : Nat} {w : World} {v : Value} {l : List (Int × Nat)} (h : w.ownsRow base 34 2 v l.length (samCells l)) (hr : ∀ x ∈ l, -9223372036854775808 ≤ x.1 ∧ x.1 ≤ 9223372036854775807 ∧ x.2 ≤ 18446744073709551615) : SamplesAt w w.heap.size v l := by
  have hlt := fun k e => (World.ownsRow.lt h k e).2
  rcases h.2 with ⟨rfl, h0⟩ | ⟨g, cap, cur, rfl, hg, hh, hc, _⟩
  · exact ⟨none, 0, by rw [h0], by omega, hr, .inl (List.eq_nil_of_length_eq_zero h0)⟩
  · refine ⟨_, cap, rfl, hc, hr, .inr ⟨g, 0, rfl, hlt g rfl, fun i x hx => ?_⟩⟩
    have := pair_get (fun x : Int × Nat => .int .i64 x.1) (fun x => .int .u64 x.2) l i x hx
    rw [Nat.zero_add]
    exact ⟨own_cell h this.1, own_cell h this.2⟩
theorem Fresh.batchAt {base : Nat} {w : World} {v : Value} {bs : List Ser} (h : Fresh w base v bs) (hr : ∀ s ∈ bs, ∀ x ∈ s.2, -9223372036854775808 ≤ x.1 ∧ x.1 ≤ 9223372036854775807 ∧ x.2 ≤ 18446744073709551615) : BatchAt w w.heap.size v bs := by
  obtain ⟨vals, ho, hS⟩ := h
  have hlt := fun k e => (World.ownsRow.lt ho k e).2
  rcases ho.2 with ⟨rfl, h0⟩ | ⟨g, cap, cur, rfl, hg, hh, hc, _⟩
  · exact ⟨none, 0, by rw [h0], by omega, .inl (List.eq_nil_of_length_eq_zero h0)⟩
  · refine ⟨_, cap, rfl, hc, .inr ⟨g, 0, rfl, hlt g rfl, fun i x hx => ?_⟩⟩
    obtain ⟨p, hp⟩ : ∃ p, vals[i]? = some p := ⟨_, List.getElem?_eq_getElem (by rw [hS.1]; exact (List.getElem?_eq_some_iff.1 hx).1)⟩
    have := pair_get (fun x : Value × Value => x.1) (fun x => x.2) vals i p hp
    have hs := hS.2 i p x hp hx
    rw [Nat.zero_add]
    exact ⟨p.1, p.2, own_cell ho this.1, own_cell ho this.2, labels_at hs.1, samples_at hs.2 (hr x (List.mem_of_getElem? hx))⟩
theorem LabelsAt.below {w w' : World} {B B' : Nat} {v : Value} {l : List Lab} (h : LabelsAt w B v l) (hb : Below B' w w') (hB : B ≤ B') : LabelsAt w' B v l := h.kept fun k hk => hb.block k (by omega)
/-- The cells of a list's element. -/
theorem LabelsAt.get {w : World} {B : Nat} {a : Option Addr} {n c : Nat} {l : List Lab} (h : LabelsAt w B (.slice a n c) l) {k : Nat} {x : Lab} (hx : l[k]? = some x) :
    ∃ b o, a = some ⟨b, o, none⟩ ∧ b < B ∧ w.cell? ⟨b, o + k * 2, none⟩ = some (.string x.1) ∧ w.cell? ⟨b, o + k * 2 + 1, none⟩ = some (.string x.2) := by
  obtain ⟨a', c', hv, _, h2⟩ := h
  cases hv
  rcases h2 with h2 | ⟨b, o, ha, hb, hc⟩
  · rw [h2] at hx; cases hx
  · exact ⟨b, o, ha, hb, (hc k x hx).1, (hc k x hx).2⟩
theorem labGet {w : World} {B : Nat} {a : Option Addr} {n c : Nat} {l : List Lab} (h : LabelsAt w B (.slice a n c) l) {j : Nat} {x : Lab} (hx : l[j]? = some x) :
    ∃ b o, a = some ⟨b, o, none⟩ ∧ w.cell? ⟨b, o + j * 2, none⟩ = some (.string x.1) ∧ w.cell? ⟨b, o + j * 2 + 1, none⟩ = some (.string x.2) := by
  obtain ⟨a', c', hv, _, h2⟩ := h
  cases hv
  rcases h2 with h2 | ⟨b, o, ha, _, hc⟩
  · rw [h2] at hx; cases hx
  · exact ⟨b, o, ha, (hc j x hx).1, (hc j x hx).2⟩
theorem samGet {w : World} {B : Nat} {a : Option Addr} {n c : Nat} {l : List (Int × Nat)} (h : SamplesAt w B (.slice a n c) l) {j : Nat} {x : Int × Nat} (hx : l[j]? = some x) :
    ∃ b o, a = some ⟨b, o, none⟩ ∧ w.cell? ⟨b, o + j * 2, none⟩ = some (.int .i64 x.1) ∧ w.cell? ⟨b, o + j * 2 + 1, none⟩ = some (.int .u64 x.2) := by
  obtain ⟨a', c', hv, _, _, h2⟩ := h
  cases hv
  rcases h2 with h2 | ⟨b, o, ha, _, hc⟩
  · rw [h2] at hx; cases hx
  · exact ⟨b, o, ha, (hc j x hx).1, (hc j x hx).2⟩
theorem drewN_two (w : World) (a b : Nat) : (w.drewN a).drewN b = w.drewN (a + b) := by
  simp [World.drewN, Nat.add_assoc]
theorem bits_xor_u64_is (a b : Nat) (ha : a ≤ 18446744073709551615) (hb : b ≤ 18446744073709551615) : Go.bits .xor .u64 (a : Int) (b : Int) = ((a ^^^ b : Nat) : Int) := by
  have hx : a ^^^ b < 2 ^ 64 := Nat.xor_lt_two_pow (by omega) (by omega)
  have h1 : (BitVec.ofInt 64 (a : Int)).toNat = a := by
    rw [BitVec.ofInt_natCast, BitVec.toNat_ofNat]; exact Nat.mod_eq_of_lt (by omega)
  have h2 : (BitVec.ofInt 64 (b : Int)).toNat = b := by
    rw [BitVec.ofInt_natCast, BitVec.toNat_ofNat]; exact Nat.mod_eq_of_lt (by omega)
  show IntKind.u64.wrap ((BitVec.ofInt 64 (a : Int) ^^^ BitVec.ofInt 64 (b : Int)).toNat : Int) = _
  rw [BitVec.toNat_xor, h1, h2, IntKind.wrap_u64]
  omega
theorem take_more {α : Type} (l : List α) (k : Nat) (x : α) (h : l[k]? = some x) : l.take (k + 1) = l.take k ++ [x] := by
  obtain ⟨hk, hx⟩ := List.getElem?_eq_some_iff.1 h
  rw [List.take_succ_eq_append_getElem hk, hx]
theorem str_ne {x s : ByteArray} (h : x ≠ s) : (x.toList == s.toList) = false := by
  simp only [beq_eq_false_iff_ne, ne_eq]
  intro e
  apply h
  apply ByteArray.ext
  rw [ByteArray.toList_eq, ByteArray.toList_eq] at e
  exact Array.ext' e
theorem str_eq {x s : ByteArray} (h : x = s) : (x.toList == s.toList) = true := by rw [h]; simp
theorem one_news (W : World) (T : Nat) (x : Value) : ∀ (j : Nat) (u : Value), [x][j]? = some u → (W.alloc (.cells #[x] T)).cell? ((⟨W.heap.size, 0, none⟩ : Addr).add j) = some u := fun j u h => by
  obtain ⟨hj, e⟩ := List.getElem?_eq_some_iff.1 h
  obtain rfl : j = 0 := by simpa using hj
  have e2 : (⟨W.heap.size, 0, none⟩ : Addr).add 0 = ⟨W.heap.size, 0, none⟩ := by simp [Addr.add]
  rw [e2]
  refine (World.cell?_alloc_new _ _ _ 0).trans ?_
  simpa using h
theorem one_cell (x : ByteArray) : ∀ u ∈ [Value.string x], u.oneCell' = true := fun u h => by
  simp at h; subst h; rfl
theorem addr_add (b o n : Nat) : (⟨b, o, none⟩ : Addr).add n = ⟨b, o + n, none⟩ := by
  unfold Addr.add; split <;> simp_all
/-- Within what the machine's numbers hold. -/
def InRange (bs : List Ser) : Prop := ∀ s ∈ bs, ∀ x ∈ s.2, -9223372036854775808 ≤ x.1 ∧ x.1 ≤ 9223372036854775807 ∧ x.2 ≤ 18446744073709551615
end Go.Proofs.YtamcclcbmenjdaaGreatDoor

/- A region that draws its order, walked under a condition S on the world that its last operation (number L, which waits for all the others) may break: S is asked behind every operation but that one. Laws of regions; no program. -/
namespace Go.Proofs.YtamcclcbmenjdaaGreatDoor
open Go

section
variable {P : Program} {ops : Array Oper} {Q : Exit → Act → World → Prop} {md : Region.Mode} {S : World → Prop} {L : Nat}

/-- Does number k wait for number i, by way of others? -/
def waits (md : Region.Mode) (ops : Array Oper) : Nat → Nat → Nat → Bool
  | 0, k, i => k == i
  | n + 1, k, i => k == i || (match ops[k]? with | some o => o.after.toList.any fun e => Region.binds md e && waits md ops n e.on i | none => false)
/-- Whoever has come up has those that he waits for behind him. -/
def Shutd (md : Region.Mode) (ops : Array Oper) (listed : Array Bool) : Prop :=
  ∀ k o, ops[k]? = some o → listed.getD k false = true → ∀ e ∈ o.after, Region.binds md e = true → listed.getD e.on false = true
def shutB (md : Region.Mode) (ops : Array Oper) (listed : Array Bool) : Bool :=
  (List.range ops.size).all fun k => !(listed.getD k false) || (match ops[k]? with | some o => o.after.toList.all fun e => !(Region.binds md e) || listed.getD e.on false | none => true)
theorem shutd_of (md : Region.Mode) (ops : Array Oper) (listed : Array Bool) (h : shutB md ops listed = true) : Shutd md ops listed := by
  intro k o ho hk e he hb
  have hlt : k < ops.size := by
    rcases Nat.lt_or_ge k ops.size with h | h
    · exact h
    · rw [Array.getElem?_eq_none h] at ho; cases ho
  have h1 := List.all_eq_true.1 h k (List.mem_range.2 hlt)
  rw [hk, ho] at h1
  simp only [Bool.not_true, Bool.false_or] at h1
  have h2 := (List.all_eq_true.1 h1) e (Array.mem_toList_iff.2 he)
  rw [hb] at h2
  simpa using h2
theorem waits_listed {listed : Array Bool} (hc : Shutd md ops listed) : ∀ (n k i : Nat), waits md ops n k i = true → listed.getD k false = true → listed.getD i false = true
  | 0, k, i, h, hk => by rw [waits, beq_iff_eq] at h; rw [← h]; exact hk
  | n + 1, k, i, h, hk => by
    rw [waits, Bool.or_eq_true] at h
    rcases h with h | h
    · rw [beq_iff_eq] at h; rw [← h]; exact hk
    · cases ho : ops[k]? with
      | none => rw [ho] at h; cases h
      | some o =>
        rw [ho] at h
        simp only at h
        obtain ⟨e, he, h2⟩ := List.any_eq_true.1 h
        rw [Bool.and_eq_true] at h2
        exact waits_listed hc n e.on i h2.2 (hc k o ho hk e (Array.mem_toList_iff.1 he) h2.1)
/-- He who may come up has those that he waits for behind him. -/
theorem waits_ready {listed : Array Bool} (hc : Shutd md ops listed) {n k i : Nat} (h : waits md ops n k i = true) (hne : k ≠ i) (hr : k ∈ Region.ready md ops listed) : listed.getD i false = true := by
  obtain ⟨_, o, ho, hall⟩ := mem_ready.1 hr
  cases n with
  | zero => rw [waits, beq_iff_eq] at h; exact absurd h hne
  | succ n =>
    rw [waits, Bool.or_eq_true] at h
    rcases h with h | h
    · rw [beq_iff_eq] at h; exact absurd h hne
    · rw [ho] at h
      simp only at h
      obtain ⟨e, he, h2⟩ := List.any_eq_true.1 h
      rw [Bool.and_eq_true] at h2
      exact waits_listed hc n e.on i h2.2 (hall e (Array.mem_toList_iff.1 he) h2.1)
theorem Shutd.step {listed : Array Bool} (hc : Shutd md ops listed) {j : Nat} (hj : j ∈ Region.ready md ops listed) : Shutd md ops (listed.setIfInBounds j true) := by
  intro k o ho hk e he hb
  refine getD_set_true ?_
  by_cases hjk : j = k
  · subst hjk
    obtain ⟨_, o', ho', hall⟩ := mem_ready.1 hj
    rw [ho] at ho'; cases ho'
    exact hall e he hb
  · rw [getD_set_ne false hjk] at hk
    exact hc k o ho hk e he hb

/-- Whatever comes up next, and S holds behind whatever comes up but L. -/
def anyL (P : Program) (md : Region.Mode) (ops : Array Oper) (Q : Exit → Act → World → Prop) (S : World → Prop) (L : Nat) : Nat → Array Bool → Act → World → Prop
  | 0, listed, a, w => Region.ready md ops listed = [] ∧ Q .normal a w
  | n + 1, listed, a, w => (Region.ready md ops listed = [] → Q .normal a w) ∧
      ∀ i ∈ Region.ready md ops listed, wpOp P ops Q i (fun a' w' => (i ≠ L → S w') ∧ anyL P md ops Q S L n (listed.setIfInBounds i true) a' w') a w

theorem anyL_any : ∀ (n : Nat) (listed : Array Bool) (a : Act) (w : World), anyL P md ops Q S L n listed a w → wpAny P md ops Q n listed a w
  | 0, _, _, _, h => h
  | n + 1, _, _, _, h => ⟨h.1, fun i hi => wpOp_mono (fun a' w' h' => anyL_any n _ a' w' h'.2) (h.2 i hi)⟩
theorem region_anyL {id : Nat} {a : Act} {w : World} (L : Nat) (hm : P.follows .mixedOrders = true) (hS : S w.drew) (h : S w.drew → anyL P .any ops Q S L ops.size (Array.replicate ops.size false) a w.drew) : (Code.region id ops true).wp P Q a w :=
  wp_region_any hm (anyL_any _ _ _ _ (h hS))

theorem anyL_first {i : Nat} {oi : Oper} {v : Value} (hi : ops[i]? = some oi) (hsel : ∀ (j : Nat) (o : Oper) cs b, ops[j]? = some o → o.op ≠ .select cs b)
    (hQ : ∀ c a w, Q (.panic c) (a.put oi.dst v) w → Q (.panic c) a w) (q : Nat) (hw : waits md ops q L i = true) (hLi : L ≠ i) (n : Nat) :
    ∀ (listed : Array Bool) (a : Act) (w : World), Shutd md ops listed →
      (∀ j oj, ops[j]? = some oj → j ≠ i → listed.getD j true = false → (∀ e ∈ oj.after, Region.binds md e = true → e.on ≠ i) → oi.apart ops oj = true) →
      i ∈ Region.ready md ops listed → YieldsIf P ops S oi v a → S w →
      anyL P md ops Q S L n (listed.setIfInBounds i true) (a.put oi.dst v) w → anyL P md ops Q S L (n + 1) listed a w := by
  induction n with
  | zero =>
    intro listed a w _ _ hr hy hS H
    refine ⟨fun h => absurd hr (by rw [h]; exact List.not_mem_nil), fun j hj => ?_⟩
    by_cases hji : j = i
    · subst hji; exact hy.wpOp hi hS ⟨fun _ => hS, H⟩
    · exact absurd (ready_mono hj hji) (by rw [H.1]; exact List.not_mem_nil)
  | succ n ih =>
    intro listed a w hc hfree hr hy hS H
    refine ⟨fun h => absurd hr (by rw [h]; exact List.not_mem_nil), fun j hj => ?_⟩
    by_cases hji : j = i
    · subst hji; exact hy.wpOp hi hS ⟨fun _ => hS, H⟩
    · obtain ⟨hjun, oj, hoj, hall⟩ := mem_ready.1 hj
      have hlist : listed.getD i true = false := (mem_ready.1 hr).1
      have hgone : listed.getD i false ≠ true := fun h1 => by
        rcases Nat.lt_or_ge i listed.size with h' | h'
        · simp [h'] at hlist h1; rw [hlist] at h1; cases h1
        · simp [Array.getElem?_eq_none h'] at h1
      have hnot : ∀ e ∈ oj.after, Region.binds md e = true → e.on ≠ i := fun e he hb heq => hgone (heq ▸ hall e he hb)
      have hjL : j ≠ L := fun e => hgone (waits_ready hc hw hLi (e ▸ hj))
      have h2 := wpOp_putIf hoj (hfree j oj hoj hji hjun hnot) (fun cs b => hsel i oi cs b hi) (fun cs b => hsel j oj cs b hoj) hQ hy (H.2 j (ready_mono hj hji))
      refine wpOp_mono (fun a' w' h3 => ?_) h2
      have hcomm : (listed.setIfInBounds i true).setIfInBounds j true = (listed.setIfInBounds j true).setIfInBounds i true := Array.setIfInBounds_comm _ _ (Ne.symm hji)
      have hS' : S w' := h3.2.1 hjL
      refine ⟨fun _ => hS', ih _ a' w' (hc.step hj) ?_ (ready_mono hr (Ne.symm hji)) h3.1 hS' (by rw [← hcomm]; exact h3.2.2)⟩
      intro k ok hk hki hun hno
      refine hfree k ok hk hki ?_ hno
      by_cases hjk : j = k
      · subst hjk; exact hjun
      · rw [getD_set_ne true hjk] at hun; exact hun
/-- Take number i first. -/
theorem anyL_take (i : Nat) {oi : Oper} {v : Value} {n : Nat} {listed : Array Bool} {a : Act} {w : World} (hi : ops[i]? = some oi)
    (hs : Region.noSelect ops = true) (hf : Region.free md ops listed i = true) (hr : (Region.ready md ops listed).contains i = true) (hw : waits md ops ops.size L i = true) (hLi : (L == i) = false) (hc : shutB md ops listed = true)
    (hQ : ∀ c a w, Q (.panic c) (a.put oi.dst v) w → Q (.panic c) a w) (hy : YieldsIf P ops S oi v a) (hS : S w)
    (h : anyL P md ops Q S L n (listed.setIfInBounds i true) (a.put oi.dst v) w) : anyL P md ops Q S L (n + 1) listed a w :=
  anyL_first hi (Region.noSelect_spec hs) hQ _ hw (by simpa using hLi) n listed a w (shutd_of _ _ _ hc) (Region.free_spec hi hf) (by simpa using hr) hy hS h
/-- One alone may come up. -/
theorem anyL_one (i : Nat) {o : Oper} {n : Nat} {listed : Array Bool} {a : Act} {w : World} (hr : Region.ready md ops listed = [i]) (ho : ops[i]? = some o) (hLi : (L == i) = false)
    (h : ∀ K' : Act → World → Prop, Shut (∀ a w, S w → (S w → anyL P md ops Q S L n (listed.setIfInBounds i true) a w) → K' a w) → if Region.wanted o (yielded ops a.tmps) = true then Oper.wp P o a w K' Q else K' (a.put o.dst undef) w) :
    anyL P md ops Q S L (n + 1) listed a w := by
  refine ⟨fun h0 => (by rw [hr] at h0; cases h0), fun j hj => ?_⟩
  rw [hr, List.mem_singleton] at hj
  subst hj
  exact wpOp_step ho fun K' hK => h K' fun a w hS hW => hK a w ⟨fun _ => hS, hW hS⟩
/-- The last. -/
theorem anyL_last (i : Nat) {o : Oper} {n : Nat} {listed : Array Bool} {a : Act} {w : World} (hr : Region.ready md ops listed = [i]) (ho : ops[i]? = some o) (hLi : (L == i) = true) (hd : Region.ready md ops (listed.setIfInBounds i true) = [])
    (h : ∀ K' : Act → World → Prop, Shut (∀ a w, Q .normal a w → K' a w) → if Region.wanted o (yielded ops a.tmps) = true then Oper.wp P o a w K' Q else K' (a.put o.dst undef) w) :
    anyL P md ops Q S L (n + 1) listed a w := by
  refine ⟨fun h0 => (by rw [hr] at h0; cases h0), fun j hj => ?_⟩
  rw [hr, List.mem_singleton] at hj
  subst hj
  refine wpOp_step ho fun K' hK => h K' fun a w hq => hK a w ⟨fun hne => absurd (beq_iff_eq.1 hLi).symm hne, ?_⟩
  cases n with
  | zero => exact ⟨hd, hq⟩
  | succ n => exact ⟨fun _ => hq, by rw [hd]; intro _ h; cases h⟩
end
end Go.Proofs.YtamcclcbmenjdaaGreatDoor

/- 'choirkeep.Level', for any list of steps (100 of them are done): when all are up, nothing is under way, and each has told each other one, all have the same, and compacted logs are the same bytes. The first form's statement and its card: no condition beside the row's own. -/
import Derived.Test.YtamcclcbmenjdaaGreatDoorLevelG4
import Derived.Test.YtamcclcbmenjdaaGreatDoorLevelG1
import Derived.Laws.CopyRow
import Derived.Laws.MakeOwn
import Derived.Lib.SlBuf
/- Rows of the call's own of different kinds lie apart; samples within their bounds; a result in a block of its own. -/
namespace Go.Proofs.YtamcclcbmenjdaaGreatDoor
open Go.RowKit Go.Lib

theorem own_types {w : World} {b1 b2 e1 e2 s1 s2 n1 n2 : Nat} {v1 v2 : Value} {xs1 xs2 : List Value} (h1 : w.ownsRow b1 e1 s1 v1 n1 xs1) (h2 : w.ownsRow b2 e2 s2 v2 n2 xs2) (he : e1 ≠ e2) : Off v1 v2 := fun k e e' => by
  rcases h1.2 with ⟨rfl, _⟩ | ⟨g, cap, cur, rfl, _, hh, _⟩
  · cases e
  · rcases h2.2 with ⟨rfl, _⟩ | ⟨g2, cap2, cur2, rfl, _, hh2, _⟩
    · cases e'
    · have a1 : g = k := Option.some.inj e
      have a2 : g2 = k := Option.some.inj e'
      rw [a1] at hh; rw [a2, hh] at hh2
      simp only [Option.some.injEq, Obj.cells.injEq] at hh2
      exact he hh2.2.1
def Rng (l : List (Int × Nat)) : Prop := ∀ x ∈ l, -9223372036854775808 ≤ x.1 ∧ x.1 ≤ 9223372036854775807 ∧ x.2 ≤ 18446744073709551615
theorem Rng.snoc {l : List (Int × Nat)} {x : Int × Nat} (h : Rng l) (hx : -9223372036854775808 ≤ x.1 ∧ x.1 ≤ 9223372036854775807 ∧ x.2 ≤ 18446744073709551615) : Rng (l ++ [x]) := fun y hy => by
  rcases List.mem_append.1 hy with h1 | h1
  · exact h y h1
  · rw [List.mem_singleton.1 h1]; exact hx
theorem results_cell1Q {fn : Func} {p : Tmp} {ty : TypeId} (h : fn.results = #[.cell p ty]) (tmps : Array Value) (P : Program) (w : World) :
    (results fn tmps).run P w = ((asAddr (tmps.getD p undef)).run P w).andThen fun a w₁ => (loadVar ty a).run P w₁ := by
  simp only [results, h]
  simp [Sem.run_bind, Result.andThen]
theorem batch_wider {w : World} {B B' : Nat} {v : Value} {bs : List Ser} (h : BatchAt w B v bs) (hB : B ≤ B') : BatchAt w B' v bs := by
  obtain ⟨a, c, hv, hc, h2⟩ := h
  refine ⟨a, c, hv, hc, h2.imp id fun ⟨b, o, ha, hb, hcell⟩ => ⟨b, o, ha, by omega, fun i x hx => ?_⟩⟩
  obtain ⟨lv, sv, h1, h2, ⟨a3, c3, e3, l3, h3⟩, ⟨a4, c4, e4, l4, r4, h4⟩⟩ := hcell i x hx
  exact ⟨lv, sv, h1, h2, ⟨a3, c3, e3, l3, h3.imp id fun ⟨b, o, ha, hb, hh⟩ => ⟨b, o, ha, by omega, hh⟩⟩, ⟨a4, c4, e4, l4, r4, h4.imp id fun ⟨b, o, ha, hb, hh⟩ => ⟨b, o, ha, by omega, hh⟩⟩⟩
/-- What was there below, read in a later world. -/
theorem batch_on {w w' : World} {v : Value} {bs : List Ser} (h : BatchAt w w.heap.size v bs) (hb : Below w.heap.size w w') : BatchAt w' w'.heap.size v bs := batch_wider (h.kept fun k hk => hb.block k hk) hb.size
end Go.Proofs.YtamcclcbmenjdaaGreatDoor

/- A block that is known whole; rows of pairs; copy of pairs. -/
namespace Go.Proofs.YtamcclcbmenjdaaGreatDoor
open Go.RowKit Go.Lib

/-- Block g holds just these cells, and may be written. -/
def Blk (w : World) (g T : Nat) (xs : List Value) : Prop := w.heap[g]? = some (.cells xs.toArray T (0, 0))
theorem Blk.lt {w : World} {g T : Nat} {xs : List Value} (h : Blk w g T xs) : g < w.heap.size := (Array.getElem?_eq_some_iff.1 h).1
theorem Blk.cell {w : World} {g T : Nat} {xs : List Value} (h : Blk w g T xs) {i : Nat} {v : Value} (hi : xs[i]? = some v) : w.cell? ⟨g, i, none⟩ = some v := by
  unfold Blk at h
  simp only [World.cell?, h]
  simpa using hi
theorem Blk.frozen {w : World} {g T : Nat} {xs : List Value} (h : Blk w g T xs) (i : Nat) : w.frozen? ⟨g, i, none⟩ = false := by
  unfold Blk at h
  simp [World.frozen?, h]
theorem Blk.kept {w w' : World} {g T : Nat} {xs : List Value} (h : Blk w g T xs) (hk : w'.heap[g]? = w.heap[g]?) : Blk w' g T xs := hk.trans h
theorem Blk.below {w w' : World} {g T B : Nat} {xs : List Value} (h : Blk w g T xs) (hb : Below B w w') (hg : g < B) : Blk w' g T xs := h.kept (hb.block g hg)
theorem Blk.alloc {w : World} {g T : Nat} {xs : List Value} (h : Blk w g T xs) (o : Obj) : Blk (w.alloc o) g T xs := h.kept (heap_alloc_old w o h.lt)
theorem Blk.drewN {w : World} {g T : Nat} {xs : List Value} (h : Blk w g T xs) (q : Nat) : Blk (w.drewN q) g T xs := h.kept ((below_drewN (Below.refl w.heap.size w) q).block g h.lt)
theorem Blk.other {w : World} {g T k i : Nat} {xs : List Value} (h : Blk w g T xs) (hk : g ≠ k) (v : Value) : Blk (w.setCell ⟨k, i, none⟩ v) g T xs := h.kept (Below.heap_setCell w ⟨k, i, none⟩ v g hk)
theorem Blk.set {w : World} {g T : Nat} {xs : List Value} (h : Blk w g T xs) (i : Nat) (v : Value) : Blk (w.setCell ⟨g, i, none⟩ v) g T (xs.set i v) := by
  rw [setCell_eq_setRow w g i xs.toArray T (0, 0) v h, List.setIfInBounds_toArray]
  have := setRow_heap w g xs.toArray (xs.toArray.setIfInBounds i v) T (0, 0) h
  rw [List.setIfInBounds_toArray] at this
  exact this
theorem Blk.new (w : World) (T : Nat) (xs : List Value) : Blk (w.alloc (.cells xs.toArray T)) w.heap.size T xs := heap_alloc_new w _

/- Rows of pairs. -/
theorem serCells_length (l : List (Value × Value)) : (serCells l).length = 2 * l.length := by
  induction l with
  | nil => rfl
  | cons x r ih => simp only [serCells, List.flatMap_cons, List.length_append, List.length_cons, List.length_nil] at ih ⊢; omega
theorem serCells_get {l : List (Value × Value)} {i : Nat} {p : Value × Value} (h : l[i]? = some p) : (serCells l)[i * 2]? = some p.1 ∧ (serCells l)[i * 2 + 1]? = some p.2 :=
  pair_get (fun x : Value × Value => x.1) (fun x => x.2) l i p h
theorem serCells_set1 (v : Value) : ∀ (l : List (Value × Value)) (i : Nat) (p : Value × Value), l[i]? = some p → (serCells l).set (i * 2) v = serCells (l.set i (v, p.2))
  | [], _, _, h => by simp at h
  | a :: r, 0, p, h => by simp at h; subst h; simp [serCells]
  | a :: r, i + 1, p, h => by
    simp only [List.getElem?_cons_succ] at h
    have ih := serCells_set1 v r i p h
    rw [show (i + 1) * 2 = i * 2 + 1 + 1 by omega]
    show (a.1 :: a.2 :: serCells r).set (i * 2 + 1 + 1) v = a.1 :: a.2 :: serCells (r.set i (v, p.2))
    rw [List.set_cons_succ, List.set_cons_succ, ih]
theorem serCells_set2 (v : Value) : ∀ (l : List (Value × Value)) (i : Nat) (p : Value × Value), l[i]? = some p → (serCells l).set (i * 2 + 1) v = serCells (l.set i (p.1, v))
  | [], _, _, h => by simp at h
  | a :: r, 0, p, h => by simp at h; subst h; simp [serCells]
  | a :: r, i + 1, p, h => by
    simp only [List.getElem?_cons_succ] at h
    have ih := serCells_set2 v r i p h
    rw [show (i + 1) * 2 + 1 = i * 2 + 1 + 1 + 1 by omega]
    show (a.1 :: a.2 :: serCells r).set (i * 2 + 1 + 1 + 1) v = a.1 :: a.2 :: serCells (r.set i (p.1, v))
    rw [List.set_cons_succ, List.set_cons_succ, ih]
theorem serCells_set {w : World} {g T : Nat} {l : List (Value × Value)} (h : Blk w g T (serCells l)) (i : Nat) {p : Value × Value} (hp : l[i]? = some p) (v : Value) :
    Blk (w.setCell ⟨g, i * 2, none⟩ v) g T (serCells (l.set i (v, p.2))) ∧ Blk (w.setCell ⟨g, i * 2 + 1, none⟩ v) g T (serCells (l.set i (p.1, v))) := by
  rw [← serCells_set1 v l i p hp, ← serCells_set2 v l i p hp]
  exact ⟨h.set _ _, h.set _ _⟩
theorem serCells_app (a b : List (Value × Value)) : serCells (a ++ b) = serCells a ++ serCells b := by simp [serCells]
theorem serCells_rep (z : Value × Value) : ∀ n, serCells (List.replicate n z) = (madeCells #[z.1, z.2] (n * 2)).toList
  | 0 => by simp [serCells, madeCells]
  | n + 1 => by
    rw [List.replicate_succ', serCells_app, serCells_rep z n]
    apply List.ext_getElem?
    intro i
    simp only [madeCells, Array.toList_map, Array.toList_range, serCells]
    by_cases h : i < n * 2
    · rw [List.getElem?_append_left (by simpa using h)]
      simp [h, show i < (n + 1) * 2 by omega]
    · rw [List.getElem?_append_right (by simpa using h)]
      by_cases h2 : i < (n + 1) * 2
      · have e : i = n * 2 ∨ i = n * 2 + 1 := by omega
        rcases e with rfl | rfl
        · simp [show n * 2 < (n + 1) * 2 by omega]
        · simp [show n * 2 + 1 < (n + 1) * 2 by omega, Nat.add_mod]
      · simp [h2, show ¬ i - n * 2 < 2 by omega]
theorem serCells_rep_arr (z : Value × Value) (n : Nat) : (serCells (List.replicate n z)).toArray = madeCells #[z.1, z.2] (n * 2) := by rw [serCells_rep, Array.toArray_toList]
/-- A list with eight places more. -/
def roomP (ps : List (Value × Value)) (x z : Value × Value) (j : Nat) : List (Value × Value) := ps ++ (List.replicate j x ++ List.replicate (8 - j) z)
theorem roomP_length (ps : List (Value × Value)) (x z : Value × Value) (j : Nat) (h : j ≤ 8) : (roomP ps x z j).length = ps.length + 8 := by simp [roomP]; omega
theorem roomP_get (ps : List (Value × Value)) (x z : Value × Value) (j : Nat) (h : j < 8) : (roomP ps x z j)[ps.length + j]? = some z := by
  unfold roomP
  rw [List.getElem?_append_right (by omega), List.getElem?_append_right (by simp), List.length_replicate, List.getElem?_replicate, if_pos (by omega)]
theorem roomP_set (ps : List (Value × Value)) (x z : Value × Value) (j : Nat) (h : j < 8) : (roomP ps x z j).set (ps.length + j) x = roomP ps x z (j + 1) := by
  unfold roomP
  rw [List.set_append_right _ _ (by omega), List.set_append_right _ _ (by simp), show 8 - j = (8 - (j + 1)) + 1 by omega, List.replicate_succ]
  simp [List.replicate_succ']
theorem roomP_front (ps : List (Value × Value)) (x z : Value × Value) (j : Nat) {i : Nat} {p : Value × Value} (h : ps[i]? = some p) : (roomP ps x z j)[i]? = some p := by
  unfold roomP
  rw [List.getElem?_append_left (List.getElem?_eq_some_iff.1 h).1]; exact h
theorem roomP_back (ps : List (Value × Value)) (x z : Value × Value) {j : Nat} (h : j < 8) : (roomP ps x z 8)[ps.length + j]? = some x := by
  unfold roomP
  rw [List.getElem?_append_right (by omega), List.getElem?_append_left (by simp; omega), List.getElem?_replicate, if_pos (by omega)]

/-- copy of elements of any number of cells. -/
theorem run_copy_rows {P : Program} (w : World) (dT sT ty elem size : Nat) (g o dLen dCap : Nat) (a : Addr) (sLen sCap : Nat) (cur : Array Value) (t : TypeId) (cs : List Value)
    (hu : P.underlying dT = some (.slice elem)) (hs : (P.info? elem).map (·.size) = some size)
    (hg : w.heap[g]? = some (.cells cur t (0, 0))) (hn : cs.length = Nat.min sLen dLen * size)
    (hsrc : ∀ j v, cs[j]? = some v → w.cell? (a.add j) = some v) (hfit : o + cs.length ≤ cur.size) (h1 : ∀ v ∈ cs, v.oneCell' = true) :
    (Builtin.copy_ #[dT, sT] ty #[.slice (some ⟨g, o, none⟩) dLen dCap, .slice (some a) sLen sCap]).run P w =
      .ok (goInt (Nat.min sLen dLen)) (w.setRow g (cur.toList.take o ++ cs ++ cur.toList.drop (o + cs.length)).toArray) := by
  have hl := run_loadCells_list (P := P) w a cs hsrc
  have hst := run_storeCells_at P g o t cs 0 cur w hg (by simpa using hfit) h1
  cases hq : P.info? elem with
  | none => simp [hq] at hs
  | some i =>
    have hi : i.size = size := by simpa [hq] using hs
    simp [Builtin.copy_, run_underlying hu, Builtin.lenOf, Builtin.firstCells, sizeOf, typeInfo, hq, hi, ← hn, hl, hst]
theorem below_setRow (w : World) (g B : Nat) (cur : Array Value) (hg : B ≤ g) : Below B w (w.setRow g cur) := by
  refine ⟨rfl, rfl, rfl, by simp [World.setRow], fun k hk => ?_⟩
  unfold World.setRow
  simp only [Array.getElem?_modify]
  rw [if_neg (by omega)]

def labP (l : List Lab) : List (Value × Value) := l.map fun x => (.string x.1, .string x.2)
def samP (l : List (Int × Nat)) : List (Value × Value) := l.map fun x => (.int .i64 x.1, .int .u64 x.2)
theorem labP_cells (l : List Lab) : serCells (labP l) = labCells l := by simp [serCells, labP, labCells, List.flatMap_map]
theorem samP_cells (l : List (Int × Nat)) : serCells (samP l) = samCells l := by simp [serCells, samP, samCells, List.flatMap_map]
def bey : ByteArray := ⟨#[98, 101, 121, 111, 110, 100]⟩
/-- The slice is nil. -/
def isNil : Value → Bool
  | .slice none _ _ => true
  | _ => false
theorem addr_block (a : Addr) (j : Nat) : (a.add j).block = a.block := by unfold Addr.add; split <;> rfl
theorem getElem?_snoc {α : Type} {l : List α} {a x : α} {i : Nat} (h : (l ++ [a])[i]? = some x) : (i < l.length ∧ l[i]? = some x) ∨ (i = l.length ∧ x = a) := by
  by_cases hi : i < l.length
  · rw [List.getElem?_append_left hi] at h; exact .inl ⟨hi, h⟩
  · have h2 : i < l.length + 1 := by have := (List.getElem?_eq_some_iff.1 h).1; simpa using this
    obtain rfl : i = l.length := by omega
    rw [List.getElem?_append_right (Nat.le_refl _), Nat.sub_self] at h
    exact .inr ⟨rfl, by simpa using h.symm⟩
end Go.Proofs.YtamcclcbmenjdaaGreatDoor

/- The cluster: how it lies in memory; replica, IsUp, running, Sync. -/
namespace Go.Proofs.YtamcclcbmenjdaaGreatDoor
open Go.RowKit Go.Lib

/-- What a replica is: is it up, what it has, its log's parts (the last first), how many bytes last. -/
structure RS where
  up : Bool
  bs : List Ser
  log : List ByteArray
  la : Nat
def logSize (l : List ByteArray) : Nat := (l.map (·.size)).sum
def upI (b : Bool) : Int := if b then 0 else 1
/-- How far on a pointer points. -/
def ptrRank : Value → Nat
  | .pointer (some a) => a.block + 1
  | _ => 0
/-- A chain of parts, in blocks behind cb, each ahead of the next. -/
def LogAt (w : World) (cb : Nat) : List ByteArray → Value → Prop
  | [], v => v = .pointer none
  | x :: r, v => ∃ g p, v = .pointer (some ⟨g, 0, none⟩) ∧ (cb < g ∧ ptrRank p ≤ g) ∧ Blk w g 182 [p, .string x] ∧ LogAt w cb r p
theorem LogAt.rank {w : World} {cb : Nat} {l : List ByteArray} {v : Value} (h : LogAt w cb l v) : ptrRank v ≤ w.heap.size := by
  cases l with
  | nil => rw [show v = .pointer none from h]; exact Nat.zero_le _
  | cons x r =>
    obtain ⟨g, p, hv, _, hb, _⟩ := h
    rw [hv]
    exact Blk.lt hb
theorem LogAt.kept {w w' : World} {cb : Nat} (hk : ∀ k, k < w.heap.size → k ≠ cb → w'.heap[k]? = w.heap[k]?) : ∀ {l : List ByteArray} {v : Value}, LogAt w cb l v → LogAt w' cb l v
  | [], _, h => h
  | _ :: _, _, ⟨g, p, hv, hg, hb, hr⟩ => ⟨g, p, hv, hg, Blk.kept hb (hk g (Blk.lt hb) (by omega)), LogAt.kept hk hr⟩
/-- A replica at ⟨cb, o⟩. -/
structure RepAt (w : World) (cb o : Nat) (r : RS) (sv lp : Value) : Prop where
  c0 : w.cell? ⟨cb, o, none⟩ = some (.int .i64 (upI r.up))
  c1 : w.cell? ⟨cb, o + 1, none⟩ = some sv
  c2 : w.cell? ⟨cb, o + 2, none⟩ = some lp
  c3 : w.cell? ⟨cb, o + 3, none⟩ = some (.int .i64 (logSize r.log))
  c4 : w.cell? ⟨cb, o + 4, none⟩ = some (.int .i64 r.la)
  fr : ∀ i, w.frozen? ⟨cb, i, none⟩ = false
  ser : Fresh w (cb + 1) sv r.bs
  log : LogAt w cb r.log lp
theorem set_is {w : World} {a : Addr} {v u : Value} (h : (w.setCell a v).cell? a = some u) : u = v := by
  cases hq : w.cell? a with
  | some x => rw [World.cell?_setCell_same _ _ _ hq] at h; exact (Option.some.inj h).symm
  | none =>
    exfalso
    simp only [World.setCell, World.cell?, Array.getElem?_modify, ↓reduceIte] at h hq
    cases hb : w.heap[a.block]? with
    | none => simp [hb] at h
    | some o =>
      cases o with
      | cells c e f =>
        simp only [hb, Option.map_some] at h hq
        cases hs : a.spot.isSome with
        | true => simp [hs] at h
        | false =>
          simp only [hs] at h hq
          simp only [Bool.false_eq_true, ↓reduceIte] at h hq
          have := Array.getElem?_eq_none_iff.1 hq
          rw [Array.getElem?_eq_none (by simpa using this)] at h
          cases h
      | _ => simp [hb] at h
/-- Cells lo to hi of block cb alone. -/
structure Turn0 (w w' : World) (cb lo hi : Nat) : Prop where
  block : ∀ k, k < w.heap.size → k ≠ cb → w'.heap[k]? = w.heap[k]?
  cells : ∀ i, i < lo ∨ hi ≤ i → w'.cell? ⟨cb, i, none⟩ = w.cell? ⟨cb, i, none⟩
  frozen : ∀ i, w'.frozen? ⟨cb, i, none⟩ = w.frozen? ⟨cb, i, none⟩
theorem Turn0.refl (w : World) (cb lo hi : Nat) : Turn0 w w cb lo hi := ⟨fun _ _ _ => rfl, fun _ _ => rfl, fun _ => rfl⟩
theorem Turn0.set {w w1 : World} {cb lo hi : Nat} (h : Turn0 w w1 cb lo hi) (i : Nat) (v : Value) (h1 : lo ≤ i) (h2 : i < hi) : Turn0 w (w1.setCell ⟨cb, i, none⟩ v) cb lo hi :=
  ⟨fun k hk hne => (Below.heap_setCell w1 ⟨cb, i, none⟩ v k hne).trans (h.block k hk hne), fun j hj => (World.cell?_setCell_other _ _ _ _ (fun e => by have : i = j := congrArg Addr.off e; omega)).trans (h.cells j hj), fun j => (by rw [World.frozen?_setCell]; exact h.frozen j)⟩
theorem fresh_turn0 {w w' : World} {cb lo hi : Nat} {v : Value} {bs : List Ser} (h : Fresh w (cb + 1) v bs) (ht : Turn0 w w' cb lo hi) : Fresh w' (cb + 1) v bs := by
  obtain ⟨vals, ho, hs⟩ := h
  exact ⟨vals, own_kept ho fun k e => ht.block k (World.ownsRow.lt ho k e).2 (by have := (World.ownsRow.lt ho k e).1; omega), hs.kept fun k h1 h2 => ht.block k h2 (by omega)⟩
/-- But for cells lo to hi of block cb nothing that was there has turned; and a list that lies there now lay there before, or lies in new memory. -/
structure Turn (w w' : World) (cb lo hi : Nat) : Prop where
  os : w'.os = w.os
  tape : w'.tape = w.tape
  output : w'.output = w.output
  size : w.heap.size ≤ w'.heap.size
  block : ∀ k, k < w.heap.size → k ≠ cb → w'.heap[k]? = w.heap[k]?
  cells : ∀ i, i < lo ∨ hi ≤ i → w'.cell? ⟨cb, i, none⟩ = w.cell? ⟨cb, i, none⟩
  frozen : ∀ i, w'.frozen? ⟨cb, i, none⟩ = w.frozen? ⟨cb, i, none⟩
  heir : ∀ i v k, w'.cell? ⟨cb, i, none⟩ = some v → v.ownBlock = some k → w.heap.size ≤ k ∨ w.cell? ⟨cb, i, none⟩ = some v
theorem Turn.refl (w : World) (cb lo hi : Nat) : Turn w w cb lo hi := ⟨rfl, rfl, rfl, Nat.le_refl _, fun _ _ _ => rfl, fun _ _ => rfl, fun _ => rfl, fun _ _ _ h _ => .inr h⟩
theorem Turn.trans {w w1 w2 : World} {cb lo hi : Nat} (h : Turn w w1 cb lo hi) (g : Turn w1 w2 cb lo hi) : Turn w w2 cb lo hi :=
  ⟨g.os.trans h.os, g.tape.trans h.tape, g.output.trans h.output, Nat.le_trans h.size g.size, fun k hk hne => (g.block k (Nat.lt_of_lt_of_le hk h.size) hne).trans (h.block k hk hne), fun i hi => (g.cells i hi).trans (h.cells i hi), fun i => (g.frozen i).trans (h.frozen i), fun i v k hc hk => (g.heir i v k hc hk).elim (fun h1 => .inl (Nat.le_trans h.size h1)) (fun h1 => h.heir i v k h1 hk)⟩
theorem Turn.of_below {w w' : World} {cb lo hi : Nat} (h : Below w.heap.size w w') (hc : cb < w.heap.size) : Turn w w' cb lo hi :=
  ⟨h.os, h.tape, h.output, h.size, fun k hk _ => h.block k hk, fun i _ => World.cell?_of_block (a := ⟨cb, i, none⟩) (h.block cb hc), fun i => World.frozen?_of_block (a := ⟨cb, i, none⟩) (h.block cb hc), fun i _ _ e _ => .inr ((World.cell?_of_block (a := ⟨cb, i, none⟩) (h.block cb hc)).symm.trans e)⟩
theorem Turn.set {w w1 : World} {cb lo hi : Nat} (h : Turn w w1 cb lo hi) (i : Nat) (v : Value) (h1 : lo ≤ i) (h2 : i < hi) (hv : ∀ k, v.ownBlock = some k → w.heap.size ≤ k := by intro k e; cases e) : Turn w (w1.setCell ⟨cb, i, none⟩ v) cb lo hi :=
  ⟨h.os, h.tape, h.output, by simpa using h.size, fun k hk hne => (Below.heap_setCell w1 ⟨cb, i, none⟩ v k hne).trans (h.block k hk hne), fun j hj => (World.cell?_setCell_other _ _ _ _ (fun e => by have : i = j := congrArg Addr.off e; omega)).trans (h.cells j hj), fun j => (by rw [World.frozen?_setCell]; exact h.frozen j), fun j u k hc hk => by
    by_cases e : i = j
    · subst e
      rw [set_is hc] at hk
      exact .inl (hv k hk)
    · rw [World.cell?_setCell_other _ _ _ _ (fun x => e (congrArg Addr.off x))] at hc
      exact h.heir j u k hc hk⟩
theorem Turn.wider {w w1 : World} {cb lo hi lo' hi' : Nat} (h : Turn w w1 cb lo hi) (h1 : lo' ≤ lo) (h2 : hi ≤ hi') : Turn w w1 cb lo' hi' :=
  ⟨h.os, h.tape, h.output, h.size, h.block, fun i hi => h.cells i (by omega), h.frozen, h.heir⟩
theorem Turn.drewN {w w1 : World} {cb lo hi : Nat} (h : Turn w w1 cb lo hi) (q : Nat) : Turn w (w1.drewN q) cb lo hi := ⟨h.os, h.tape, h.output, h.size, h.block, h.cells, h.frozen, h.heir⟩
theorem fresh_turn {w w' : World} {cb lo hi : Nat} {v : Value} {bs : List Ser} (h : Fresh w (cb + 1) v bs) (ht : Turn w w' cb lo hi) : Fresh w' (cb + 1) v bs := by
  obtain ⟨vals, ho, hs⟩ := h
  exact ⟨vals, own_kept ho fun k e => ht.block k (World.ownsRow.lt ho k e).2 (by have := (World.ownsRow.lt ho k e).1; omega), hs.kept fun k h1 h2 => ht.block k h2 (by omega)⟩
/-- Another part of the cluster has turned. -/
theorem RepAt.other {w w' : World} {cb o lo hi : Nat} {r : RS} {sv lp : Value} (h : RepAt w cb o r sv lp) (ht : Turn w w' cb lo hi) (hd : hi ≤ o ∨ o + 5 ≤ lo) : RepAt w' cb o r sv lp :=
  ⟨(ht.cells _ (by omega)).trans h.c0, (ht.cells _ (by omega)).trans h.c1, (ht.cells _ (by omega)).trans h.c2, (ht.cells _ (by omega)).trans h.c3, (ht.cells _ (by omega)).trans h.c4, fun i => (ht.frozen i).trans (h.fr i), fresh_turn h.ser ht, h.log.kept ht.block⟩
theorem RepAt.lt {w : World} {cb o : Nat} {r : RS} {sv lp : Value} (h : RepAt w cb o r sv lp) : cb < w.heap.size := World.block_lt_of_cell? w _ h.c0
theorem RepAt.below {w w' : World} {cb o : Nat} {r : RS} {sv lp : Value} (h : RepAt w cb o r sv lp) (hb : Below w.heap.size w w') : RepAt w' cb o r sv lp := h.other (Turn.of_below (lo := 0) (hi := 0) hb h.lt) (.inl (Nat.zero_le _))

set_option maxHeartbeats 400000 in
theorem isReplica_any (w : World) (r : Nat) (hr : r < 3) :
    Calls Tryz.prog 68 #[.int .i64 r] w fun e w' => e = .returned (.bool true) ∧ w = w' := by
  go_enter Tryz.func68, Tryz.ntmps68
  go_wp2
  go_ret
  exact ⟨by simp; omega, rfl⟩
set_option maxHeartbeats 400000 in
theorem replica_any (w : World) (cb r : Nat) (hr : r < 3) :
    Calls Tryz.prog 59 #[.pointer (some ⟨cb, 0, none⟩), .int .i64 r] w fun e w' => e = .returned (.tuple #[.pointer (some ⟨cb, r * 5, none⟩), .int .i64 0]) ∧ w = w' := by
  have C := hide (isReplica_any w r hr)
  go_enter Tryz.func59, Tryz.ntmps59
  go_wp2_with fail
  refine C.out.mono ?_
  rintro e w1 ⟨rfl, rfl⟩
  go_wp2
  go_ret2
  exact ⟨rfl, rfl⟩
set_option maxHeartbeats 400000 in
theorem isUp_any (w : World) (cb o : Nat) (r : RS) (sv lp : Value) (h : RepAt w cb o r sv lp) :
    Calls Tryz.prog 93 #[.pointer (some ⟨cb, o, none⟩)] w fun e w' => e = .returned (.bool r.up) ∧ w = w' := by
  have c0 := h.c0
  clear h
  cases hu : r.up with
  | true =>
    rw [hu] at c0
    have c0' : w.cell? ⟨cb, o, none⟩ = some (.int .i64 0) := c0
    clear c0 hu
    go_enter Tryz.func93, Tryz.ntmps93
    go_wp2
    go_ret
    exact ⟨rfl, rfl⟩
  | false =>
    rw [hu] at c0
    have c0' : w.cell? ⟨cb, o, none⟩ = some (.int .i64 1) := c0
    clear c0 hu
    go_enter Tryz.func93, Tryz.ntmps93
    go_wp2
    go_ret
    exact ⟨rfl, rfl⟩
set_option maxHeartbeats 400000 in
theorem running_any (w : World) (cb k : Nat) (hk : k < 3) (r : RS) (sv lp : Value) (h : RepAt w cb (k * 5) r sv lp) :
    Calls Tryz.prog 61 #[.pointer (some ⟨cb, 0, none⟩), .int .i64 k] w fun e w' => e = .returned (.tuple (if r.up then #[.pointer (some ⟨cb, k * 5, none⟩), .int .i64 0] else #[.pointer none, .int .i64 5])) ∧ w = w' := by
  have C := hide (replica_any w cb k hk)
  have C2 := hide (isUp_any w cb (k * 5) r sv lp h)
  clear h
  generalize r.up = u at *
  go_enter Tryz.func61, Tryz.ntmps61
  go_wp2_with fail
  refine C.out.mono ?_
  rintro e w1 ⟨rfl, rfl⟩
  go_wp2_with fail
  refine C2.out.mono ?_
  rintro e w1 ⟨rfl, rfl⟩
  cases u with
  | true =>
    go_wp2
    go_ret2
    exact ⟨rfl, rfl⟩
  | false =>
    go_wp2
    go_ret2
    exact ⟨rfl, rfl⟩
theorem RepAt.sync {w : World} {cb o : Nat} {r : RS} {sv lp : Value} (h : RepAt w cb o r sv lp) : RepAt (w.setCell ⟨cb, o + 4, none⟩ (.int .i64 (logSize r.log))) cb o { r with la := logSize r.log } sv lp := by
  have ht : Turn w (w.setCell ⟨cb, o + 4, none⟩ (.int .i64 (logSize r.log))) cb (o + 4) (o + 5) := (Turn.refl w cb _ _).set _ _ (Nat.le_refl _) (by omega)
  exact ⟨(ht.cells _ (by omega)).trans h.c0, (ht.cells _ (by omega)).trans h.c1, (ht.cells _ (by omega)).trans h.c2, (ht.cells _ (by omega)).trans h.c3, World.cell?_setCell_same _ _ _ h.c4, fun i => (ht.frozen i).trans (h.fr i), fresh_turn h.ser ht, h.log.kept ht.block⟩
set_option maxHeartbeats 400000 in
theorem sync_any (w : World) (cb o : Nat) (r : RS) (sv lp : Value) (h : RepAt w cb o r sv lp) :
    Calls Tryz.prog 63 #[.pointer (some ⟨cb, o, none⟩)] w fun e w' => e = .returned (.tuple #[]) ∧ RepAt w' cb o { r with la := logSize r.log } sv lp ∧ Turn w w' cb o (o + 5) := by
  have c3 := h.c3
  have c4 := h.c4
  have f4 := h.fr (o + 4)
  have H := hide h.sync
  have HT : Hid (Turn w (w.setCell ⟨cb, o + 4, none⟩ (.int .i64 (logSize r.log))) cb o (o + 5)) := (Turn.refl w cb _ _).set _ _ (by omega) (by omega)
  clear h
  generalize logSize r.log = n at *
  go_enter Tryz.func63, Tryz.ntmps63
  go_wp2
  go_end0
  exact ⟨rfl, H.out, HT.out⟩
set_option maxHeartbeats 400000 in
/-- (c *Cluster).Sync. -/
theorem cSync_any (w : World) (cb k : Nat) (hk : k < 3) (r : RS) (sv lp : Value) (h : RepAt w cb (k * 5) r sv lp) :
    Calls Tryz.prog 25 #[.pointer (some ⟨cb, 0, none⟩), .int .i64 k] w fun e w' => e = .returned (.int .i64 (if r.up then 0 else 5)) ∧ RepAt w' cb (k * 5) (if r.up then { r with la := logSize r.log } else r) sv lp ∧ Turn w w' cb (k * 5) (k * 5 + 5) := by
  have C := hide (running_any w cb k hk r sv lp h)
  have C2 := hide (sync_any w cb (k * 5) r sv lp h)
  have H := hide h
  clear h
  generalize hu : r.up = u at *
  clear hu
  cases u with
  | true =>
    go_enter Tryz.func25, Tryz.ntmps25
    go_wp2_with fail
    refine C.out.mono ?_
    rintro e w1 ⟨rfl, rfl⟩
    go_wp2_with fail
    refine C2.out.mono ?_
    rintro e w1 ⟨rfl, h1, t1⟩
    have H1 := hide h1
    have T1 := hide t1
    clear h1 t1 C C2
    go_wp2
    go_ret
    exact ⟨rfl, H1.out, T1.out⟩
  | false =>
    go_enter Tryz.func25, Tryz.ntmps25
    go_wp2_with fail
    refine C.out.mono ?_
    rintro e w1 ⟨rfl, rfl⟩
    go_wp2
    go_ret
    exact ⟨rfl, H.out, Turn.refl _ _ _ _⟩
end Go.Proofs.YtamcclcbmenjdaaGreatDoor

/- choirkeep's same: are two lists of series the same? -/
namespace Go.Proofs.YtamcclcbmenjdaaGreatDoor
open Go.RowKit Go.Lib

theorem take_eq_more {α : Type} {l m : List α} {i : Nat} {x y : α} (hx : l[i]? = some x) (hy : m[i]? = some y) : l.take (i + 1) = m.take (i + 1) ↔ l.take i = m.take i ∧ x = y := by
  rw [List.take_add_one, List.take_add_one, hx, hy]
  constructor
  · intro h
    have := List.append_inj' h rfl
    exact ⟨this.1, by simpa using this.2⟩
  · rintro ⟨h, rfl⟩; rw [h]
theorem take_all {α : Type} {l m : List α} (h : l.length = m.length) {i : Nat} (hi : l.length ≤ i) : l.take i = m.take i ↔ l = m := by
  rw [List.take_of_length_le hi, List.take_of_length_le (by omega)]
theorem take_ne {α : Type} {l m : List α} {i : Nat} (h : l.take i ≠ m.take i) : l ≠ m := fun e => h (by rw [e])
set_option maxRecDepth 100000 in
set_option maxHeartbeats 1000000 in
theorem same_iff (v1 v2 : Value) (ys bs : List Ser) (w : World) (h1 : BatchAt w w.heap.size v1 ys) (h2 : BatchAt w w.heap.size v2 bs) (hsm1 : Small ys) (hsm2 : Small bs) :
    Calls Tryz.prog 16 #[v1, v2] w fun e w' => BoolOf e (ys = bs) ∧ Below w.heap.size w w' := by
  obtain ⟨a1, c1, rfl, _⟩ := id h1
  obtain ⟨a2, c2, rfl, _⟩ := id h2
  have H1 := hide h1
  have H2 := hide h2
  have HSm1 := hide hsm1
  have HSm2 := hide hsm2
  have hl1 := hsm1.series
  have hl2 := hsm2.series
  clear h1 h2 hsm1 hsm2
  by_cases hlen : ys.length = bs.length
  · rw [hlen]
    go_enter Tryz.func16, Tryz.ntmps16
    go_wp2
    go_loopw [5, 6, 7] (fun i _ _ wr => ∃ m q : Nat, m ≤ bs.length ∧ i = .int .i64 m ∧ wr = w.drewN q ∧ ys.take m = bs.take m) (fun i _ _ _ => bs.length - (intOf i).toNat)
    case atStart => exact ⟨0, 0, Nat.zero_le _, rfl, rfl, rfl⟩
    case round =>
      obtain ⟨m, q, hm, rfl, rfl, htk⟩ := hrel
      by_cases hlt : m < bs.length
      · obtain ⟨⟨ll, sl⟩, hx⟩ : ∃ x, ys[m]? = some x := ⟨_, List.getElem?_eq_getElem (by omega)⟩
        obtain ⟨⟨kl, tl⟩, hy⟩ : ∃ x, bs[m]? = some x := ⟨_, List.getElem?_eq_getElem hlt⟩
        obtain ⟨b1, o1, la1, lc1, sa1, sc1, rfl, _, p1, p2, L1, S1⟩ := H1.out.get hx
        obtain ⟨b2, o2, la2, lc2, sa2, sc2, rfl, _, q1, q2, L2, S2⟩ := H2.out.get hy
        have hl1 := HSm1.out.labels _ (List.mem_of_getElem? hx)
        have hs1 := HSm1.out.samples _ (List.mem_of_getElem? hx)
        have hl2 := HSm2.out.labels _ (List.mem_of_getElem? hy)
        have hs2 := HSm2.out.samples _ (List.mem_of_getElem? hy)
        have HT : Hid ((ll = kl ∧ sl = tl) ↔ ys.take (m + 1) = bs.take (m + 1)) := by
          rw [take_eq_more hx hy]
          exact ⟨fun ⟨e1, e2⟩ => ⟨htk, by rw [e1, e2]⟩, fun ⟨_, e⟩ => ⟨(Prod.mk.inj e).1, (Prod.mk.inj e).2⟩⟩
        simp only at p1 p2 q1 q2 L1 L2 S1 S2 hl1 hs1 hl2 hs2
        have HL1 := hide L1
        have HL2 := hide L2
        have HS1 := hide S1
        have HS2 := hide S2
        clear L1 L2 S1 S2 hx hy htk
        by_cases hll : ll.length = kl.length
        · rw [hll] at p1
          by_cases hss : sl.length = tl.length
          · rw [hss] at p2
            go_wp2
            go_quiet (fail)
            go_wp2
            go_loopw [6] (fun i wr => ∃ j q : Nat, j ≤ kl.length ∧ i = .int .i64 j ∧ wr = w.drewN q ∧ ll.take j = kl.take j) (fun i _ => kl.length - (intOf i).toNat)
            case atStart => exact ⟨0, _, Nat.zero_le _, rfl, by first | rfl | exact drewN_two _ _ _, rfl⟩
            case round =>
              obtain ⟨j, q, hj, rfl, rfl, htk⟩ := hrel
              by_cases hjl : j < kl.length
              · obtain ⟨⟨kx, vx⟩, hx⟩ : ∃ x, ll[j]? = some x := ⟨_, List.getElem?_eq_getElem (by omega)⟩
                obtain ⟨⟨ky, vy⟩, hy⟩ : ∃ x, kl[j]? = some x := ⟨_, List.getElem?_eq_getElem hjl⟩
                obtain ⟨e1, f1, rfl, u1, u2⟩ := labGet HL1.out hx
                obtain ⟨e2, f2, rfl, v1, v2⟩ := labGet HL2.out hy
                simp only at u1 u2 v1 v2
                have HT2 := hide (take_eq_more hx hy)
                clear hx hy
                by_cases hk : kx = ky
                · subst hk
                  by_cases hv : vx = vy
                  · subst hv
                    go_wp2
                    go_quiet (fail)
                    go_wp2
                    go_roundw
                    case rel => exact ⟨j + 1, _, by omega, by go_num, by first | rfl | exact drewN_two _ _ _, HT2.out.2 ⟨htk, by trivial⟩⟩
                    case measure => simp [intOf]; omega
                  · have hvb := str_ne hv
                    go_wp2
                    go_quiet (fail)
                    go_wp2
                    go_ret
                    exact ⟨BoolOf.no fun e => take_ne (fun e2 => hv (Prod.mk.inj (HT2.out.1 e2).2).2) (HT.out.2 (by rw [e])).1, by first | exact below_drewN (Below.refl _ _) _ | (rw [drewN_two]; exact below_drewN (Below.refl _ _) _)⟩
                · have hkb := str_ne hk
                  go_wp2
                  go_quiet (fail)
                  go_wp2
                  go_ret
                  exact ⟨BoolOf.no fun e => take_ne (fun e2 => hk (Prod.mk.inj (HT2.out.1 e2).2).1) (HT.out.2 (by rw [e])).1, by first | exact below_drewN (Below.refl _ _) _ | (rw [drewN_two]; exact below_drewN (Below.refl _ _) _)⟩
              · have HLe : Hid (ll = kl) := (take_all hll (by omega : ll.length ≤ j)).1 htk
                clear htk
                go_wp2
                go_loopw [7] (fun i wr => ∃ j q : Nat, j ≤ tl.length ∧ i = .int .i64 j ∧ wr = w.drewN q ∧ sl.take j = tl.take j) (fun i _ => tl.length - (intOf i).toNat)
                case atStart => exact ⟨0, _, Nat.zero_le _, rfl, rfl, rfl⟩
                case round =>
                  obtain ⟨j, q, hj, rfl, rfl, htk⟩ := hrel
                  by_cases hjl : j < tl.length
                  · obtain ⟨⟨kx, vx⟩, hx⟩ : ∃ x, sl[j]? = some x := ⟨_, List.getElem?_eq_getElem (by omega)⟩
                    obtain ⟨⟨ky, vy⟩, hy⟩ : ∃ x, tl[j]? = some x := ⟨_, List.getElem?_eq_getElem hjl⟩
                    obtain ⟨e1, f1, rfl, u1, u2⟩ := samGet HS1.out hx
                    obtain ⟨e2, f2, rfl, v1, v2⟩ := samGet HS2.out hy
                    simp only at u1 u2 v1 v2
                    have HT2 := hide (take_eq_more hx hy)
                    clear hx hy
                    by_cases hk : kx = ky
                    · subst hk
                      by_cases hv : vx = vy
                      · subst hv
                        go_wp2
                        go_quiet (fail)
                        go_wp2
                        go_roundw
                        case rel => exact ⟨j + 1, _, by omega, by go_num, by first | rfl | exact drewN_two _ _ _, HT2.out.2 ⟨htk, by trivial⟩⟩
                        case measure => simp [intOf]; omega
                      · have hvi : ¬ (vx : Int) = (vy : Int) := by omega
                        go_wp2
                        go_quiet (fail)
                        go_wp2
                        go_ret
                        exact ⟨BoolOf.no fun e => take_ne (fun e2 => hv (Prod.mk.inj (HT2.out.1 e2).2).2) (HT.out.2 (by rw [e])).2, by first | exact below_drewN (Below.refl _ _) _ | (rw [drewN_two]; exact below_drewN (Below.refl _ _) _)⟩
                    · go_wp2
                      go_quiet (fail)
                      go_wp2
                      go_ret
                      exact ⟨BoolOf.no fun e => take_ne (fun e2 => hk (Prod.mk.inj (HT2.out.1 e2).2).1) (HT.out.2 (by rw [e])).2, by first | exact below_drewN (Below.refl _ _) _ | (rw [drewN_two]; exact below_drewN (Below.refl _ _) _)⟩
                  · have HSe : Hid (sl = tl) := (take_all hss (by omega : sl.length ≤ j)).1 htk
                    go_wp2
                    go_roundw
                    case rel => exact ⟨m + 1, _, by omega, by go_num, rfl, HT.out.1 ⟨HLe.out, HSe.out⟩⟩
                    case measure => simp [intOf]; omega
          · have j1 : ¬ (sl.length : Int) = (tl.length : Int) := by omega
            go_wp2
            go_quiet (fail)
            go_wp2
            go_ret
            exact ⟨BoolOf.no fun e => hss (by rw [(HT.out.2 (by rw [e])).2]), by first | exact below_drewN (Below.refl _ _) _ | (rw [drewN_two]; exact below_drewN (Below.refl _ _) _)⟩
        · have j0 : ¬ (ll.length : Int) = (kl.length : Int) := by omega
          go_wp2
          go_quiet (fail)
          go_wp2
          go_ret
          exact ⟨BoolOf.no fun e => hll (by rw [(HT.out.2 (by rw [e])).1]), by first | exact below_drewN (Below.refl _ _) _ | (rw [drewN_two]; exact below_drewN (Below.refl _ _) _)⟩
      · go_wp2
        go_ret
        exact ⟨BoolOf.yes ((take_all hlen (by omega : ys.length ≤ m)).1 htk), by first | exact below_drewN (Below.refl _ _) _ | (rw [drewN_two]; exact below_drewN (Below.refl _ _) _)⟩
  · have i0 : ¬ (ys.length : Int) = (bs.length : Int) := by omega
    go_enter Tryz.func16, Tryz.ntmps16
    go_wp2
    go_ret
    exact ⟨BoolOf.no fun e => hlen (by rw [e]), by first | exact below_drewN (Below.refl _ _) _ | exact Below.refl _ _⟩
end Go.Proofs.YtamcclcbmenjdaaGreatDoor

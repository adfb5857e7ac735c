/- A block that is known whole; rows of pairs; copy of pairs. -/
import Derived.Test.YtcidgfdiacehmaaBase
import Derived.Laws.CopyRow
import Derived.Laws.MakeOwn
import Derived.Lib.SlBuf
namespace Go.Proofs.Ytcidgfdiacehmaa
open Go.RowKit Go.Lib

/-- Block g holds just these cells, and may be written. -/
def Blk (w : World) (g T : Nat) (xs : List Value) : Prop := w.heap[g]? = some (.cells xs.toArray T (0, 0))
theorem Blk.lt {w : World} {g T : Nat} {xs : List Value} (h : Blk w g T xs) : g < w.heap.size := (Array.getElem?_eq_some_iff.1 h).1
theorem Blk.cell {w : World} {g T : Nat} {xs : List Value} (h : Blk w g T xs) {i : Nat} {v : Value} (hi : xs[i]? = some v) : w.cell? ⟨g, i, none⟩ = some v := by
  unfold Blk at h
  simp only [World.cell?, h]
  simpa using hi
theorem Blk.frozen {w : World} {g T : Nat} {xs : List Value} (h : Blk w g T xs) (i : Nat) : w.frozen? ⟨g, i, none⟩ = false := by
  unfold Blk at h
  simp [World.frozen?, h]
theorem Blk.kept {w w' : World} {g T : Nat} {xs : List Value} (h : Blk w g T xs) (hk : w'.heap[g]? = w.heap[g]?) : Blk w' g T xs := hk.trans h
theorem Blk.below {w w' : World} {g T B : Nat} {xs : List Value} (h : Blk w g T xs) (hb : Below B w w') (hg : g < B) : Blk w' g T xs := h.kept (hb.block g hg)
theorem Blk.alloc {w : World} {g T : Nat} {xs : List Value} (h : Blk w g T xs) (o : Obj) : Blk (w.alloc o) g T xs := h.kept (heap_alloc_old w o h.lt)
theorem Blk.drewN {w : World} {g T : Nat} {xs : List Value} (h : Blk w g T xs) (q : Nat) : Blk (w.drewN q) g T xs := h.kept ((below_drewN (Below.refl w.heap.size w) q).block g h.lt)
theorem Blk.other {w : World} {g T k i : Nat} {xs : List Value} (h : Blk w g T xs) (hk : g ≠ k) (v : Value) : Blk (w.setCell ⟨k, i, none⟩ v) g T xs := h.kept (Below.heap_setCell w ⟨k, i, none⟩ v g hk)
theorem Blk.set {w : World} {g T : Nat} {xs : List Value} (h : Blk w g T xs) (i : Nat) (v : Value) : Blk (w.setCell ⟨g, i, none⟩ v) g T (xs.set i v) := by
  rw [setCell_eq_setRow w g i xs.toArray T (0, 0) v h, List.setIfInBounds_toArray]
  have := setRow_heap w g xs.toArray (xs.toArray.setIfInBounds i v) T (0, 0) h
  rw [List.setIfInBounds_toArray] at this
  exact this
theorem Blk.new (w : World) (T : Nat) (xs : List Value) : Blk (w.alloc (.cells xs.toArray T)) w.heap.size T xs := heap_alloc_new w _

/- Rows of pairs. -/
theorem serCells_length (l : List (Value × Value)) : (serCells l).length = 2 * l.length := by
  induction l with
  | nil => rfl
  | cons x r ih => simp only [serCells, List.flatMap_cons, List.length_append, List.length_cons, List.length_nil] at ih ⊢; omega
theorem serCells_get {l : List (Value × Value)} {i : Nat} {p : Value × Value} (h : l[i]? = some p) : (serCells l)[i * 2]? = some p.1 ∧ (serCells l)[i * 2 + 1]? = some p.2 :=
  pair_get (fun x : Value × Value => x.1) (fun x => x.2) l i p h
theorem serCells_set1 (v : Value) : ∀ (l : List (Value × Value)) (i : Nat) (p : Value × Value), l[i]? = some p → (serCells l).set (i * 2) v = serCells (l.set i (v, p.2))
  | [], _, _, h => by simp at h
  | a :: r, 0, p, h => by simp at h; subst h; simp [serCells]
  | a :: r, i + 1, p, h => by
    simp only [List.getElem?_cons_succ] at h
    have ih := serCells_set1 v r i p h
    rw [show (i + 1) * 2 = i * 2 + 1 + 1 by omega]
    show (a.1 :: a.2 :: serCells r).set (i * 2 + 1 + 1) v = a.1 :: a.2 :: serCells (r.set i (v, p.2))
    rw [List.set_cons_succ, List.set_cons_succ, ih]
theorem serCells_set2 (v : Value) : ∀ (l : List (Value × Value)) (i : Nat) (p : Value × Value), l[i]? = some p → (serCells l).set (i * 2 + 1) v = serCells (l.set i (p.1, v))
  | [], _, _, h => by simp at h
  | a :: r, 0, p, h => by simp at h; subst h; simp [serCells]
  | a :: r, i + 1, p, h => by
    simp only [List.getElem?_cons_succ] at h
    have ih := serCells_set2 v r i p h
    rw [show (i + 1) * 2 + 1 = i * 2 + 1 + 1 + 1 by omega]
    show (a.1 :: a.2 :: serCells r).set (i * 2 + 1 + 1 + 1) v = a.1 :: a.2 :: serCells (r.set i (p.1, v))
    rw [List.set_cons_succ, List.set_cons_succ, ih]
theorem serCells_set {w : World} {g T : Nat} {l : List (Value × Value)} (h : Blk w g T (serCells l)) (i : Nat) {p : Value × Value} (hp : l[i]? = some p) (v : Value) :
    Blk (w.setCell ⟨g, i * 2, none⟩ v) g T (serCells (l.set i (v, p.2))) ∧ Blk (w.setCell ⟨g, i * 2 + 1, none⟩ v) g T (serCells (l.set i (p.1, v))) := by
  rw [← serCells_set1 v l i p hp, ← serCells_set2 v l i p hp]
  exact ⟨h.set _ _, h.set _ _⟩
theorem serCells_app (a b : List (Value × Value)) : serCells (a ++ b) = serCells a ++ serCells b := by simp [serCells]
theorem serCells_rep (z : Value × Value) : ∀ n, serCells (List.replicate n z) = (madeCells #[z.1, z.2] (n * 2)).toList
  | 0 => by simp [serCells, madeCells]
  | n + 1 => by
    rw [List.replicate_succ', serCells_app, serCells_rep z n]
    apply List.ext_getElem?
    intro i
    simp only [madeCells, Array.toList_map, Array.toList_range, serCells]
    by_cases h : i < n * 2
    · rw [List.getElem?_append_left (by simpa using h)]
      simp [h, show i < (n + 1) * 2 by omega]
    · rw [List.getElem?_append_right (by simpa using h)]
      by_cases h2 : i < (n + 1) * 2
      · have e : i = n * 2 ∨ i = n * 2 + 1 := by omega
        rcases e with rfl | rfl
        · simp [show n * 2 < (n + 1) * 2 by omega]
        · simp [show n * 2 + 1 < (n + 1) * 2 by omega, Nat.add_mod]
      · simp [h2, show ¬ i - n * 2 < 2 by omega]
theorem serCells_rep_arr (z : Value × Value) (n : Nat) : (serCells (List.replicate n z)).toArray = madeCells #[z.1, z.2] (n * 2) := by rw [serCells_rep, Array.toArray_toList]
/-- A list with eight places more. -/
def roomP (ps : List (Value × Value)) (x z : Value × Value) (j : Nat) : List (Value × Value) := ps ++ (List.replicate j x ++ List.replicate (8 - j) z)
theorem roomP_length (ps : List (Value × Value)) (x z : Value × Value) (j : Nat) (h : j ≤ 8) : (roomP ps x z j).length = ps.length + 8 := by simp [roomP]; omega
theorem roomP_get (ps : List (Value × Value)) (x z : Value × Value) (j : Nat) (h : j < 8) : (roomP ps x z j)[ps.length + j]? = some z := by
  unfold roomP
  rw [List.getElem?_append_right (by omega), List.getElem?_append_right (by simp), List.length_replicate, List.getElem?_replicate, if_pos (by omega)]
theorem roomP_set (ps : List (Value × Value)) (x z : Value × Value) (j : Nat) (h : j < 8) : (roomP ps x z j).set (ps.length + j) x = roomP ps x z (j + 1) := by
  unfold roomP
  rw [List.set_append_right _ _ (by omega), List.set_append_right _ _ (by simp), show 8 - j = (8 - (j + 1)) + 1 by omega, List.replicate_succ]
  simp [List.replicate_succ']
theorem roomP_front (ps : List (Value × Value)) (x z : Value × Value) (j : Nat) {i : Nat} {p : Value × Value} (h : ps[i]? = some p) : (roomP ps x z j)[i]? = some p := by
  unfold roomP
  rw [List.getElem?_append_left (List.getElem?_eq_some_iff.1 h).1]; exact h
theorem roomP_back (ps : List (Value × Value)) (x z : Value × Value) {j : Nat} (h : j < 8) : (roomP ps x z 8)[ps.length + j]? = some x := by
  unfold roomP
  rw [List.getElem?_append_right (by omega), List.getElem?_append_left (by simp; omega), List.getElem?_replicate, if_pos (by omega)]

/-- copy of elements of any number of cells. -/
theorem run_copy_rows {P : Program} (w : World) (dT sT ty elem size : Nat) (g o dLen dCap : Nat) (a : Addr) (sLen sCap : Nat) (cur : Array Value) (t : TypeId) (cs : List Value)
    (hu : P.underlying dT = some (.slice elem)) (hs : (P.info? elem).map (·.size) = some size)
    (hg : w.heap[g]? = some (.cells cur t (0, 0))) (hn : cs.length = Nat.min sLen dLen * size)
    (hsrc : ∀ j v, cs[j]? = some v → w.cell? (a.add j) = some v) (hfit : o + cs.length ≤ cur.size) (h1 : ∀ v ∈ cs, v.oneCell' = true) :
    (Builtin.copy_ #[dT, sT] ty #[.slice (some ⟨g, o, none⟩) dLen dCap, .slice (some a) sLen sCap]).run P w =
      .ok (goInt (Nat.min sLen dLen)) (w.setRow g (cur.toList.take o ++ cs ++ cur.toList.drop (o + cs.length)).toArray) := by
  have hl := run_loadCells_list (P := P) w a cs hsrc
  have hst := run_storeCells_at P g o t cs 0 cur w hg (by simpa using hfit) h1
  cases hq : P.info? elem with
  | none => simp [hq] at hs
  | some i =>
    have hi : i.size = size := by simpa [hq] using hs
    simp [Builtin.copy_, run_underlying hu, Builtin.lenOf, Builtin.firstCells, sizeOf, typeInfo, hq, hi, ← hn, hl, hst]
theorem below_setRow (w : World) (g B : Nat) (cur : Array Value) (hg : B ≤ g) : Below B w (w.setRow g cur) := by
  refine ⟨rfl, rfl, rfl, by simp [World.setRow], fun k hk => ?_⟩
  unfold World.setRow
  simp only [Array.getElem?_modify]
  rw [if_neg (by omega)]

def labP (l : List Lab) : List (Value × Value) := l.map fun x => (.string x.1, .string x.2)
def samP (l : List (Int × Nat)) : List (Value × Value) := l.map fun x => (.int .i64 x.1, .int .u64 x.2)
theorem labP_cells (l : List Lab) : serCells (labP l) = labCells l := by simp [serCells, labP, labCells, List.flatMap_map]
theorem samP_cells (l : List (Int × Nat)) : serCells (samP l) = samCells l := by simp [serCells, samP, samCells, List.flatMap_map]
def bey : ByteArray := ⟨#[98, 101, 121, 111, 110, 100]⟩
/-- The slice is nil. -/
def isNil : Value → Bool
  | .slice none _ _ => true
  | _ => false
end Go.Proofs.Ytcidgfdiacehmaa

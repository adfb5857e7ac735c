/- 'choirlaw.Joins', for any two lists of series of bulk at most 1048576: Join answers the document's join or error, either way round; what is handed in stays, what comes out is its owner's. The second form's statement: its only condition is the row's own bound on the arguments' bulk. -/
import Derived.Test.YtcidgfdiacehmaaJoinsuptoG1
import Derived.Laws.CopyRow
import Derived.Laws.MakeOwn
import Derived.Lib.SlBuf
import Derived.Lib.SliceRun
/- A block that is known whole; rows of pairs; copy of pairs. -/
namespace Go.Proofs.Ytcidgfdiacehmaa
open Go.RowKit Go.Lib

/-- Block g holds just these cells, and may be written. -/
def Blk (w : World) (g T : Nat) (xs : List Value) : Prop := w.heap[g]? = some (.cells xs.toArray T (0, 0))
theorem Blk.lt {w : World} {g T : Nat} {xs : List Value} (h : Blk w g T xs) : g < w.heap.size := (Array.getElem?_eq_some_iff.1 h).1
theorem Blk.cell {w : World} {g T : Nat} {xs : List Value} (h : Blk w g T xs) {i : Nat} {v : Value} (hi : xs[i]? = some v) : w.cell? ⟨g, i, none⟩ = some v := by
  unfold Blk at h
  simp only [World.cell?, h]
  simpa using hi
theorem Blk.frozen {w : World} {g T : Nat} {xs : List Value} (h : Blk w g T xs) (i : Nat) : w.frozen? ⟨g, i, none⟩ = false := by
  unfold Blk at h
  simp [World.frozen?, h]
theorem Blk.kept {w w' : World} {g T : Nat} {xs : List Value} (h : Blk w g T xs) (hk : w'.heap[g]? = w.heap[g]?) : Blk w' g T xs := hk.trans h
theorem Blk.below {w w' : World} {g T B : Nat} {xs : List Value} (h : Blk w g T xs) (hb : Below B w w') (hg : g < B) : Blk w' g T xs := h.kept (hb.block g hg)
theorem Blk.alloc {w : World} {g T : Nat} {xs : List Value} (h : Blk w g T xs) (o : Obj) : Blk (w.alloc o) g T xs := h.kept (heap_alloc_old w o h.lt)
theorem Blk.drewN {w : World} {g T : Nat} {xs : List Value} (h : Blk w g T xs) (q : Nat) : Blk (w.drewN q) g T xs := h.kept ((below_drewN (Below.refl w.heap.size w) q).block g h.lt)
theorem Blk.other {w : World} {g T k i : Nat} {xs : List Value} (h : Blk w g T xs) (hk : g ≠ k) (v : Value) : Blk (w.setCell ⟨k, i, none⟩ v) g T xs := h.kept (Below.heap_setCell w ⟨k, i, none⟩ v g hk)
theorem Blk.set {w : World} {g T : Nat} {xs : List Value} (h : Blk w g T xs) (i : Nat) (v : Value) : Blk (w.setCell ⟨g, i, none⟩ v) g T (xs.set i v) := by
  rw [setCell_eq_setRow w g i xs.toArray T (0, 0) v h, List.setIfInBounds_toArray]
  have := setRow_heap w g xs.toArray (xs.toArray.setIfInBounds i v) T (0, 0) h
  rw [List.setIfInBounds_toArray] at this
  exact this
theorem Blk.new (w : World) (T : Nat) (xs : List Value) : Blk (w.alloc (.cells xs.toArray T)) w.heap.size T xs := heap_alloc_new w _

/- Rows of pairs. -/
theorem serCells_length (l : List (Value × Value)) : (serCells l).length = 2 * l.length := by
  induction l with
  | nil => rfl
  | cons x r ih => simp only [serCells, List.flatMap_cons, List.length_append, List.length_cons, List.length_nil] at ih ⊢; omega
theorem serCells_get {l : List (Value × Value)} {i : Nat} {p : Value × Value} (h : l[i]? = some p) : (serCells l)[i * 2]? = some p.1 ∧ (serCells l)[i * 2 + 1]? = some p.2 :=
  pair_get (fun x : Value × Value => x.1) (fun x => x.2) l i p h
theorem serCells_set1 (v : Value) : ∀ (l : List (Value × Value)) (i : Nat) (p : Value × Value), l[i]? = some p → (serCells l).set (i * 2) v = serCells (l.set i (v, p.2))
  | [], _, _, h => by simp at h
  | a :: r, 0, p, h => by simp at h; subst h; simp [serCells]
  | a :: r, i + 1, p, h => by
    simp only [List.getElem?_cons_succ] at h
    have ih := serCells_set1 v r i p h
    rw [show (i + 1) * 2 = i * 2 + 1 + 1 by omega]
    show (a.1 :: a.2 :: serCells r).set (i * 2 + 1 + 1) v = a.1 :: a.2 :: serCells (r.set i (v, p.2))
    rw [List.set_cons_succ, List.set_cons_succ, ih]
theorem serCells_set2 (v : Value) : ∀ (l : List (Value × Value)) (i : Nat) (p : Value × Value), l[i]? = some p → (serCells l).set (i * 2 + 1) v = serCells (l.set i (p.1, v))
  | [], _, _, h => by simp at h
  | a :: r, 0, p, h => by simp at h; subst h; simp [serCells]
  | a :: r, i + 1, p, h => by
    simp only [List.getElem?_cons_succ] at h
    have ih := serCells_set2 v r i p h
    rw [show (i + 1) * 2 + 1 = i * 2 + 1 + 1 + 1 by omega]
    show (a.1 :: a.2 :: serCells r).set (i * 2 + 1 + 1 + 1) v = a.1 :: a.2 :: serCells (r.set i (p.1, v))
    rw [List.set_cons_succ, List.set_cons_succ, ih]
theorem serCells_set {w : World} {g T : Nat} {l : List (Value × Value)} (h : Blk w g T (serCells l)) (i : Nat) {p : Value × Value} (hp : l[i]? = some p) (v : Value) :
    Blk (w.setCell ⟨g, i * 2, none⟩ v) g T (serCells (l.set i (v, p.2))) ∧ Blk (w.setCell ⟨g, i * 2 + 1, none⟩ v) g T (serCells (l.set i (p.1, v))) := by
  rw [← serCells_set1 v l i p hp, ← serCells_set2 v l i p hp]
  exact ⟨h.set _ _, h.set _ _⟩
theorem serCells_app (a b : List (Value × Value)) : serCells (a ++ b) = serCells a ++ serCells b := by simp [serCells]
theorem serCells_rep (z : Value × Value) : ∀ n, serCells (List.replicate n z) = (madeCells #[z.1, z.2] (n * 2)).toList
  | 0 => by simp [serCells, madeCells]
  | n + 1 => by
    rw [List.replicate_succ', serCells_app, serCells_rep z n]
    apply List.ext_getElem?
    intro i
    simp only [madeCells, Array.toList_map, Array.toList_range, serCells]
    by_cases h : i < n * 2
    · rw [List.getElem?_append_left (by simpa using h)]
      simp [h, show i < (n + 1) * 2 by omega]
    · rw [List.getElem?_append_right (by simpa using h)]
      by_cases h2 : i < (n + 1) * 2
      · have e : i = n * 2 ∨ i = n * 2 + 1 := by omega
        rcases e with rfl | rfl
        · simp [show n * 2 < (n + 1) * 2 by omega]
        · simp [show n * 2 + 1 < (n + 1) * 2 by omega, Nat.add_mod]
      · simp [h2, show ¬ i - n * 2 < 2 by omega]
theorem serCells_rep_arr (z : Value × Value) (n : Nat) : (serCells (List.replicate n z)).toArray = madeCells #[z.1, z.2] (n * 2) := by rw [serCells_rep, Array.toArray_toList]
/-- A list with eight places more. -/
def roomP (ps : List (Value × Value)) (x z : Value × Value) (j : Nat) : List (Value × Value) := ps ++ (List.replicate j x ++ List.replicate (8 - j) z)
theorem roomP_length (ps : List (Value × Value)) (x z : Value × Value) (j : Nat) (h : j ≤ 8) : (roomP ps x z j).length = ps.length + 8 := by simp [roomP]; omega
theorem roomP_get (ps : List (Value × Value)) (x z : Value × Value) (j : Nat) (h : j < 8) : (roomP ps x z j)[ps.length + j]? = some z := by
  unfold roomP
  rw [List.getElem?_append_right (by omega), List.getElem?_append_right (by simp), List.length_replicate, List.getElem?_replicate, if_pos (by omega)]
theorem roomP_set (ps : List (Value × Value)) (x z : Value × Value) (j : Nat) (h : j < 8) : (roomP ps x z j).set (ps.length + j) x = roomP ps x z (j + 1) := by
  unfold roomP
  rw [List.set_append_right _ _ (by omega), List.set_append_right _ _ (by simp), show 8 - j = (8 - (j + 1)) + 1 by omega, List.replicate_succ]
  simp [List.replicate_succ']
theorem roomP_front (ps : List (Value × Value)) (x z : Value × Value) (j : Nat) {i : Nat} {p : Value × Value} (h : ps[i]? = some p) : (roomP ps x z j)[i]? = some p := by
  unfold roomP
  rw [List.getElem?_append_left (List.getElem?_eq_some_iff.1 h).1]; exact h
theorem roomP_back (ps : List (Value × Value)) (x z : Value × Value) {j : Nat} (h : j < 8) : (roomP ps x z 8)[ps.length + j]? = some x := by
  unfold roomP
  rw [List.getElem?_append_right (by omega), List.getElem?_append_left (by simp; omega), List.getElem?_replicate, if_pos (by omega)]

/-- copy of elements of any number of cells. -/
theorem run_copy_rows {P : Program} (w : World) (dT sT ty elem size : Nat) (g o dLen dCap : Nat) (a : Addr) (sLen sCap : Nat) (cur : Array Value) (t : TypeId) (cs : List Value)
    (hu : P.underlying dT = some (.slice elem)) (hs : (P.info? elem).map (·.size) = some size)
    (hg : w.heap[g]? = some (.cells cur t (0, 0))) (hn : cs.length = Nat.min sLen dLen * size)
    (hsrc : ∀ j v, cs[j]? = some v → w.cell? (a.add j) = some v) (hfit : o + cs.length ≤ cur.size) (h1 : ∀ v ∈ cs, v.oneCell' = true) :
    (Builtin.copy_ #[dT, sT] ty #[.slice (some ⟨g, o, none⟩) dLen dCap, .slice (some a) sLen sCap]).run P w =
      .ok (goInt (Nat.min sLen dLen)) (w.setRow g (cur.toList.take o ++ cs ++ cur.toList.drop (o + cs.length)).toArray) := by
  have hl := run_loadCells_list (P := P) w a cs hsrc
  have hst := run_storeCells_at P g o t cs 0 cur w hg (by simpa using hfit) h1
  cases hq : P.info? elem with
  | none => simp [hq] at hs
  | some i =>
    have hi : i.size = size := by simpa [hq] using hs
    simp [Builtin.copy_, run_underlying hu, Builtin.lenOf, Builtin.firstCells, sizeOf, typeInfo, hq, hi, ← hn, hl, hst]
theorem below_setRow (w : World) (g B : Nat) (cur : Array Value) (hg : B ≤ g) : Below B w (w.setRow g cur) := by
  refine ⟨rfl, rfl, rfl, by simp [World.setRow], fun k hk => ?_⟩
  unfold World.setRow
  simp only [Array.getElem?_modify]
  rw [if_neg (by omega)]

def labP (l : List Lab) : List (Value × Value) := l.map fun x => (.string x.1, .string x.2)
def samP (l : List (Int × Nat)) : List (Value × Value) := l.map fun x => (.int .i64 x.1, .int .u64 x.2)
theorem labP_cells (l : List Lab) : serCells (labP l) = labCells l := by simp [serCells, labP, labCells, List.flatMap_map]
theorem samP_cells (l : List (Int × Nat)) : serCells (samP l) = samCells l := by simp [serCells, samP, samCells, List.flatMap_map]
def bey : ByteArray := ⟨#[98, 101, 121, 111, 110, 100]⟩
/-- The slice is nil. -/
def isNil : Value → Bool
  | .slice none _ _ => true
  | _ => false
theorem addr_block (a : Addr) (j : Nat) : (a.add j).block = a.block := by unfold Addr.add; split <;> rfl
theorem getElem?_snoc {α : Type} {l : List α} {a x : α} {i : Nat} (h : (l ++ [a])[i]? = some x) : (i < l.length ∧ l[i]? = some x) ∨ (i = l.length ∧ x = a) := by
  by_cases hi : i < l.length
  · rw [List.getElem?_append_left hi] at h; exact .inl ⟨hi, h⟩
  · have h2 : i < l.length + 1 := by have := (List.getElem?_eq_some_iff.1 h).1; simpa using this
    obtain rfl : i = l.length := by omega
    rw [List.getElem?_append_right (Nat.le_refl _), Nat.sub_self] at h
    exact .inr ⟨rfl, by simpa using h.symm⟩
end Go.Proofs.Ytcidgfdiacehmaa

/- choirlaw's labels and samples: lists with room behind them. -/
namespace Go.Proofs.Ytcidgfdiacehmaa
open Go.RowKit Go.Lib

def labX : Value × Value := (.string bey, .string ByteArray.empty)
def labZ : Value × Value := (.string ByteArray.empty, .string ByteArray.empty)
def samX : Value × Value := (.int .i64 0, .int .u64 77)
def samZ : Value × Value := (.int .i64 0, .int .u64 0)
/-- A list with eight places of the caller's behind it; nil stays nil. -/
def Room (w : World) (base T : Nat) (x z : Value × Value) (v v' : Value) (ps : List (Value × Value)) : Prop :=
  (isNil v = true ∧ v' = .slice none 0 0 ∧ ps = []) ∨ (isNil v = false ∧ ∃ g, base ≤ g ∧ v' = .slice (some ⟨g, 0, none⟩) ps.length (ps.length + 8) ∧ Blk w g T (serCells (roomP ps x z 8)))
def RoomL (w : World) (base : Nat) (v v' : Value) (l : List Lab) : Prop := Room w base 60 labX labZ v v' (labP l)
def RoomS (w : World) (base : Nat) (v v' : Value) (l : List (Int × Nat)) : Prop := Room w base 33 samX samZ v v' (samP l)
theorem labP_length (l : List Lab) : (labP l).length = l.length := by simp [labP]
theorem samP_length (l : List (Int × Nat)) : (samP l).length = l.length := by simp [samP]

/-- What make and copy leave. -/
theorem room_start (w : World) (T e bytes : Nat) (x z : Value × Value) (i0 : TypeInfo) (hu : Try.prog.underlying T = some (.slice e)) (hi : Try.prog.info? e = some i0) (hz0 : i0.zero = some (.agg #[z.1, z.2])) (hzc : (Value.agg #[z.1, z.2]).cells = #[z.1, z.2]) (hz1 : i0.size = 2) (hz2 : i0.bytes = bytes)
    (a : Addr) (n cap : Nat) (ps : List (Value × Value)) (hn : ps.length = n) (hb : bytes * (n + 8) ≤ 281474976710656) (h63 : n ≤ 100000000000000) (hsrc : ∀ j v, (serCells ps)[j]? = some v → a.block < w.heap.size ∧ w.cell? (a.add j) = some v) (h1 : ∀ v ∈ serCells ps, v.oneCell' = true) :
    ∃ w0 w1, (Instr.makeSlice T (.int .i64 ((n : Int) + 8)) (.int .i64 ((n : Int) + 8))).run Try.prog w = .ok (.slice (some ⟨w.heap.size, 0, none⟩) (n + 8) (n + 8)) w0 ∧
      (∀ ty, (Builtin.copy_ #[T, T] ty #[.slice (some ⟨w.heap.size, 0, none⟩) (n + 8) (n + 8), .slice (some a) n cap]).run Try.prog w0 = .ok (goInt n) w1) ∧
      Blk w1 w.heap.size e (serCells (roomP ps x z 0)) ∧ Below w.heap.size w w1 := by
  have hbI : (bytes : Int) * ((n : Int) + 8) ≤ 281474976710656 := by
    have h := Int.ofNat_le.2 hb
    simpa only [Int.natCast_mul, Int.natCast_add, Int.cast_ofNat_Int] using h
  have hm := run_make (P := Try.prog) w T e i0 (.agg #[z.1, z.2]) hu hi hz0 .i64 .i64 ((n : Int) + 8) ((n : Int) + 8) (by omega) (by omega) (by rw [hz2]; exact hbI) (by omega)
  have e8 : ((n : Int) + 8).toNat = n + 8 := by omega
  rw [e8, hzc, hz1, ← serCells_rep_arr z (n + 8)] at hm
  have hB := Blk.new w e (serCells (List.replicate (n + 8) z))
  have hl : (serCells ps).length = n * 2 := by rw [serCells_length]; omega
  refine ⟨_, (w.alloc (.cells (serCells (List.replicate (n + 8) z)).toArray e)).setRow w.heap.size ((serCells (List.replicate (n + 8) z)).take 0 ++ serCells ps ++ (serCells (List.replicate (n + 8) z)).drop (0 + (serCells ps).length)).toArray, hm, fun ty => ?_, ?_, ?_⟩
  · have h := run_copy_rows (P := Try.prog) _ T T ty e 2 w.heap.size 0 (n + 8) (n + 8) a n cap _ e (serCells ps) hu (by rw [hi]; simp [hz1]) hB (by rw [hl, show Nat.min n (n + 8) = n from Nat.min_eq_left (by omega)]) (fun j v hj => ?_) (by rw [hl]; simp [serCells_length]; omega) h1
    · rw [show Nat.min n (n + 8) = n from Nat.min_eq_left (by omega)] at h
      exact h
    · obtain ⟨ha, hc⟩ := hsrc j v hj
      exact (World.cell?_of_block (a := a.add j) (heap_alloc_old w _ (by rw [addr_block]; exact ha))).trans hc
  · have h := setRow_heap _ w.heap.size _ ((serCells (List.replicate (n + 8) z)).take 0 ++ serCells ps ++ (serCells (List.replicate (n + 8) z)).drop (0 + (serCells ps).length)).toArray e (0, 0) hB
    have e2 : (serCells (List.replicate (n + 8) z)).take 0 ++ serCells ps ++ (serCells (List.replicate (n + 8) z)).drop (0 + (serCells ps).length) = serCells (roomP ps x z 0) := by
      rw [hl, List.take_zero, List.nil_append, Nat.zero_add, roomP, serCells_app, ← List.replicate_append_replicate, serCells_app, List.drop_left' (by rw [serCells_length]; simp; omega)]
      simp
    rw [e2] at h
    rw [e2]; exact h
  · exact ((Below.refl _ _).alloc (Nat.le_refl _) _).trans (below_setRow _ _ _ _ (Nat.le_refl _))

theorem lab_src {w : World} {B : Nat} {a : Addr} {n cap : Nat} {l : List Lab} (h : LabelsAt w B (.slice (some a) n cap) l) (hB : B ≤ w.heap.size) : ∀ j v, (serCells (labP l))[j]? = some v → a.block < w.heap.size ∧ w.cell? (a.add j) = some v := fun j v hj => by
  obtain ⟨a', c', hv, _, h2⟩ := h
  cases hv
  rcases h2 with h2 | ⟨b, o, ha, hb, hc⟩
  · subst h2; simp [labP, serCells] at hj
  · cases ha
    refine ⟨by show b < _; omega, ?_⟩
    have hl : j < 2 * l.length := by
      have := (List.getElem?_eq_some_iff.1 hj).1
      rw [serCells_length, labP_length] at this; exact this
    obtain ⟨x, hx⟩ : ∃ x, l[j / 2]? = some x := ⟨_, List.getElem?_eq_getElem (by omega)⟩
    have hp : (labP l)[j / 2]? = some (.string x.1, .string x.2) := by simp [labP, hx]
    have hg := serCells_get hp
    rw [addr_add]
    rcases Nat.mod_two_eq_zero_or_one j with e | e
    · have ej : j = j / 2 * 2 := by omega
      rw [ej] at hj ⊢
      rw [hg.1] at hj; cases hj
      exact (hc _ x hx).1
    · have ej : j = j / 2 * 2 + 1 := by omega
      rw [ej] at hj ⊢
      rw [hg.2] at hj; cases hj
      rw [← Nat.add_assoc]
      exact (hc _ x hx).2
theorem sam_src {w : World} {B : Nat} {a : Addr} {n cap : Nat} {l : List (Int × Nat)} (h : SamplesAt w B (.slice (some a) n cap) l) (hB : B ≤ w.heap.size) : ∀ j v, (serCells (samP l))[j]? = some v → a.block < w.heap.size ∧ w.cell? (a.add j) = some v := fun j v hj => by
  obtain ⟨a', c', hv, _, _, h2⟩ := h
  cases hv
  rcases h2 with h2 | ⟨b, o, ha, hb, hc⟩
  · subst h2; simp [samP, serCells] at hj
  · cases ha
    refine ⟨by show b < _; omega, ?_⟩
    have hl : j < 2 * l.length := by
      have := (List.getElem?_eq_some_iff.1 hj).1
      rw [serCells_length, samP_length] at this; exact this
    obtain ⟨x, hx⟩ : ∃ x, l[j / 2]? = some x := ⟨_, List.getElem?_eq_getElem (by omega)⟩
    have hp : (samP l)[j / 2]? = some (.int .i64 x.1, .int .u64 x.2) := by simp [samP, hx]
    have hg := serCells_get hp
    rw [addr_add]
    rcases Nat.mod_two_eq_zero_or_one j with e | e
    · have ej : j = j / 2 * 2 := by omega
      rw [ej] at hj ⊢
      rw [hg.1] at hj; cases hj
      exact (hc _ x hx).1
    · have ej : j = j / 2 * 2 + 1 := by omega
      rw [ej] at hj ⊢
      rw [hg.2] at hj; cases hj
      rw [← Nat.add_assoc]
      exact (hc _ x hx).2
theorem lab_one (l : List Lab) : ∀ v ∈ serCells (labP l), v.oneCell' = true := fun v hv => by
  rw [labP_cells] at hv
  simp only [labCells, List.mem_flatMap] at hv
  obtain ⟨x, _, hx⟩ := hv
  simp at hx
  rcases hx with rfl | rfl <;> rfl
theorem sam_one (l : List (Int × Nat)) : ∀ v ∈ serCells (samP l), v.oneCell' = true := fun v hv => by
  rw [samP_cells] at hv
  simp only [samCells, List.mem_flatMap] at hv
  obtain ⟨x, _, hx⟩ := hv
  simp at hx
  rcases hx with rfl | rfl <;> rfl

set_option maxRecDepth 100000 in
set_option maxHeartbeats 400000 in
theorem llabels_any (B : Nat) (v : Value) (l : List Lab) (w : World) (hL : LabelsAt w B v l) (hB : B ≤ w.heap.size) (hl : l.length ≤ 4400000000000) :
    Calls Try.prog 22 #[v] w fun e w' => ∃ v', e = .returned v' ∧ RoomL w' w.heap.size v v' l ∧ Below w.heap.size w w' := by
  obtain ⟨i0, hi, hz0, hz1, hz2⟩ := info_parts Try.infoLab
  obtain ⟨a, cap, rfl, hcap, h2⟩ := id hL
  have hnil : ∀ (W : World) a n c, (binOp .eql 35 (.slice a n c) (.slice none 0 0)).run Try.prog W = .ok (.bool a.isNone) W := fun W a n c => Lib.run_eql_slice_nil W 35 60 a n c 0 0 Try.underlying35
  cases a with
  | none =>
    have hl0 : l = [] := by
      rcases h2 with h | ⟨b, o, h, _⟩
      · exact h
      · cases h
    subst hl0
    clear hL h2
    go_enter Try.func22, Try.ntmps22
    go_wp2
    go_ret
    exact ⟨_, rfl, .inl ⟨rfl, rfl, rfl⟩, Below.refl _ _⟩
  | some a =>
    obtain ⟨w0, w1, hmk, hcp, hB1, hbl⟩ := room_start w 35 60 32 labX labZ i0 Try.underlying35 hi hz0 rfl hz1 hz2 a l.length cap (labP l) (labP_length l) (by omega) (by omega) (lab_src hL hB) (lab_one l)
    have HB1 := hide hB1
    have HBl := hide hbl
    have hlen := labP_length l
    clear hL h2 hi hz0 hz1 hz2 hB1 hbl
    go_enter Try.func22, Try.ntmps22
    go_wp2_with (at_builtin; refine Lib.wpList_copy_run _ rfl _ _ 35 35 rfl _ _ rfl rfl (hcp _) ?_)
    clear hmk hcp
    go_loopw [5] (fun i wr => ∃ j : Nat, j ≤ 8 ∧ i = .int .i64 ((l.length + j : Nat) : Int) ∧ Hid (Blk wr w.heap.size 60 (serCells (roomP (labP l) labX labZ j))) ∧ Below w.heap.size w wr) (fun i _ => l.length + 8 - (intOf i).toNat)
    case atStart => exact ⟨0, by omega, rfl, HB1.out, HBl.out⟩
    case round =>
      obtain ⟨j, hj, rfl, HK, hbl⟩ := hrel
      have HBl2 := hide hbl
      clear hbl HB1 HBl
      by_cases hlt : j < 8
      · have hg : (roomP (labP l) labX labZ j)[l.length + j]? = some labZ := by have := roomP_get (labP l) labX labZ j hlt; rw [hlen] at this; exact this
        have c1 := HK.out.cell (serCells_get hg).1
        have f1 := HK.out.frozen ((l.length + j) * 2)
        have hn := (serCells_set HK.out (l.length + j) hg (.string bey)).1
        have hs := roomP_set (labP l) labX labZ j hlt
        rw [hlen] at hs
        rw [show ((Value.string bey, labZ.2) : Value × Value) = labX from rfl, hs] at hn
        have HN := hide hn
        have h8 : ((l.length + j : Nat) : Int) < (l.length : Int) + 8 := by omega
        clear hg hn hs HK
        simp only [labZ] at c1
        go_wp2
        go_roundw
        case rel => exact ⟨j + 1, by omega, by go_num, HN.out, HBl2.out.setCell (Nat.le_refl _) _⟩
        case measure => simp [intOf]; omega
      · obtain rfl : j = 8 := by omega
        go_wp2
        go_ret
        exact ⟨_, rfl, .inr ⟨rfl, w.heap.size, Nat.le_refl _, by rw [hlen]; rfl, HK.out⟩, HBl2.out⟩
set_option maxRecDepth 100000 in
set_option maxHeartbeats 400000 in
theorem lsamples_any (B : Nat) (v : Value) (l : List (Int × Nat)) (w : World) (hL : SamplesAt w B v l) (hB : B ≤ w.heap.size) (hl : l.length ≤ 8800000000000) :
    Calls Try.prog 23 #[v] w fun e w' => ∃ v', e = .returned v' ∧ RoomS w' w.heap.size v v' l ∧ Below w.heap.size w w' := by
  obtain ⟨i0, hi, hz0, hz1, hz2⟩ := info_parts Try.infoSam
  obtain ⟨a, cap, rfl, hcap, _, h2⟩ := id hL
  have hnil : ∀ (W : World) a n c, (binOp .eql 34 (.slice a n c) (.slice none 0 0)).run Try.prog W = .ok (.bool a.isNone) W := fun W a n c => Lib.run_eql_slice_nil W 34 33 a n c 0 0 Try.underlying34
  cases a with
  | none =>
    have hl0 : l = [] := by
      rcases h2 with h | ⟨b, o, h, _⟩
      · exact h
      · cases h
    subst hl0
    clear hL h2
    go_enter Try.func23, Try.ntmps23
    go_wp2
    go_ret
    exact ⟨_, rfl, .inl ⟨rfl, rfl, rfl⟩, Below.refl _ _⟩
  | some a =>
    obtain ⟨w0, w1, hmk, hcp, hB1, hbl⟩ := room_start w 34 33 16 samX samZ i0 Try.underlying34 hi hz0 rfl hz1 hz2 a l.length cap (samP l) (samP_length l) (by omega) (by omega) (sam_src hL hB) (sam_one l)
    have HB1 := hide hB1
    have HBl := hide hbl
    have hlen := samP_length l
    clear hL h2 hi hz0 hz1 hz2 hB1 hbl
    go_enter Try.func23, Try.ntmps23
    go_wp2_with (at_builtin; refine Lib.wpList_copy_run _ rfl _ _ 34 34 rfl _ _ rfl rfl (hcp _) ?_)
    clear hmk hcp
    go_loopw [5] (fun i wr => ∃ j : Nat, j ≤ 8 ∧ i = .int .i64 ((l.length + j : Nat) : Int) ∧ Hid (Blk wr w.heap.size 33 (serCells (roomP (samP l) samX samZ j))) ∧ Below w.heap.size w wr) (fun i _ => l.length + 8 - (intOf i).toNat)
    case atStart => exact ⟨0, by omega, rfl, HB1.out, HBl.out⟩
    case round =>
      obtain ⟨j, hj, rfl, HK, hbl⟩ := hrel
      have HBl2 := hide hbl
      clear hbl HB1 HBl
      by_cases hlt : j < 8
      · have hg : (roomP (samP l) samX samZ j)[l.length + j]? = some samZ := by have := roomP_get (samP l) samX samZ j hlt; rw [hlen] at this; exact this
        have c1 := HK.out.cell (serCells_get hg).2
        have f1 := HK.out.frozen ((l.length + j) * 2 + 1)
        have hn := (serCells_set HK.out (l.length + j) hg (.int .u64 77)).2
        have hs := roomP_set (samP l) samX samZ j hlt
        rw [hlen] at hs
        rw [show ((samZ.1, Value.int .u64 77) : Value × Value) = samX from rfl, hs] at hn
        have HN := hide hn
        have h8 : ((l.length + j : Nat) : Int) < (l.length : Int) + 8 := by omega
        clear hg hn hs HK
        simp only [samZ] at c1
        go_wp2
        go_roundw
        case rel => exact ⟨j + 1, by omega, by go_num, HN.out, HBl2.out.setCell (Nat.le_refl _) _⟩
        case measure => simp [intOf]; omega
      · obtain rfl : j = 8 := by omega
        go_wp2
        go_ret
        exact ⟨_, rfl, .inr ⟨rfl, w.heap.size, Nat.le_refl _, by rw [hlen]; rfl, HK.out⟩, HBl2.out⟩
end Go.Proofs.Ytcidgfdiacehmaa

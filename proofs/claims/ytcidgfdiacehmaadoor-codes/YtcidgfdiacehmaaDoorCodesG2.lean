/- 'choirlaw.Codes', for every list of series: Encode answers the document's frame or error, byte by byte, and what is handed in stays. The first form's statement and its card: no condition beside the row's own. -/
import Derived.Test.YtcidgfdiacehmaaDoorUnPay
import Derived.Laws.CopyRow
import Derived.Laws.MakeOwn
import Derived.Lib.SlBuf
import Derived.Lib.SliceRun
import Derived.Deep.Slices
import Derived.Test.YtcidgfdiacehmaaDoorKBatch
import Derived.WalkSpells
import Derived.Test.YtcidgfdiacehmaaDoorCodesG1
import Derived.Test.YtcidgfdiacehmaaDoorNumOf
import Derived.Test.YtcidgfdiacehmaaDoorCheck
import Derived.OpenShut
import Derived.SizedLaws
import Derived.ProofKit
import Derived.Test.YtcidgfdiacehmaaDoorOuter
import Derived.Test.YtcidgfdiacehmaaDoorCards
import Derived.Test.YtcidgfdiacehmaaDoorTie
import Derived.WalkKit
import Derived.Deep.DeepHandedRow
/- A block that is known whole; rows of pairs; copy of pairs. -/
namespace Go.Proofs.YtcidgfdiacehmaaDoor
open Go.RowKit Go.Lib

/-- Block g holds just these cells, and may be written. -/
def Blk (w : World) (g T : Nat) (xs : List Value) : Prop := w.heap[g]? = some (.cells xs.toArray T (0, 0))
theorem Blk.lt {w : World} {g T : Nat} {xs : List Value} (h : Blk w g T xs) : g < w.heap.size := (Array.getElem?_eq_some_iff.1 h).1
theorem Blk.cell {w : World} {g T : Nat} {xs : List Value} (h : Blk w g T xs) {i : Nat} {v : Value} (hi : xs[i]? = some v) : w.cell? ⟨g, i, none⟩ = some v := by
  unfold Blk at h
  simp only [World.cell?, h]
  simpa using hi
theorem Blk.frozen {w : World} {g T : Nat} {xs : List Value} (h : Blk w g T xs) (i : Nat) : w.frozen? ⟨g, i, none⟩ = false := by
  unfold Blk at h
  simp [World.frozen?, h]
theorem Blk.kept {w w' : World} {g T : Nat} {xs : List Value} (h : Blk w g T xs) (hk : w'.heap[g]? = w.heap[g]?) : Blk w' g T xs := hk.trans h
theorem Blk.below {w w' : World} {g T B : Nat} {xs : List Value} (h : Blk w g T xs) (hb : Below B w w') (hg : g < B) : Blk w' g T xs := h.kept (hb.block g hg)
theorem Blk.alloc {w : World} {g T : Nat} {xs : List Value} (h : Blk w g T xs) (o : Obj) : Blk (w.alloc o) g T xs := h.kept (heap_alloc_old w o h.lt)
theorem Blk.drewN {w : World} {g T : Nat} {xs : List Value} (h : Blk w g T xs) (q : Nat) : Blk (w.drewN q) g T xs := h.kept ((below_drewN (Below.refl w.heap.size w) q).block g h.lt)
theorem Blk.other {w : World} {g T k i : Nat} {xs : List Value} (h : Blk w g T xs) (hk : g ≠ k) (v : Value) : Blk (w.setCell ⟨k, i, none⟩ v) g T xs := h.kept (Below.heap_setCell w ⟨k, i, none⟩ v g hk)
theorem Blk.set {w : World} {g T : Nat} {xs : List Value} (h : Blk w g T xs) (i : Nat) (v : Value) : Blk (w.setCell ⟨g, i, none⟩ v) g T (xs.set i v) := by
  rw [setCell_eq_setRow w g i xs.toArray T (0, 0) v h, List.setIfInBounds_toArray]
  have := setRow_heap w g xs.toArray (xs.toArray.setIfInBounds i v) T (0, 0) h
  rw [List.setIfInBounds_toArray] at this
  exact this
theorem Blk.new (w : World) (T : Nat) (xs : List Value) : Blk (w.alloc (.cells xs.toArray T)) w.heap.size T xs := heap_alloc_new w _

/- Rows of pairs. -/
theorem serCells_length (l : List (Value × Value)) : (serCells l).length = 2 * l.length := by
  induction l with
  | nil => rfl
  | cons x r ih => simp only [serCells, List.flatMap_cons, List.length_append, List.length_cons, List.length_nil] at ih ⊢; omega
theorem serCells_get {l : List (Value × Value)} {i : Nat} {p : Value × Value} (h : l[i]? = some p) : (serCells l)[i * 2]? = some p.1 ∧ (serCells l)[i * 2 + 1]? = some p.2 :=
  pair_get (fun x : Value × Value => x.1) (fun x => x.2) l i p h
theorem serCells_set1 (v : Value) : ∀ (l : List (Value × Value)) (i : Nat) (p : Value × Value), l[i]? = some p → (serCells l).set (i * 2) v = serCells (l.set i (v, p.2))
  | [], _, _, h => by simp at h
  | a :: r, 0, p, h => by simp at h; subst h; simp [serCells]
  | a :: r, i + 1, p, h => by
    simp only [List.getElem?_cons_succ] at h
    have ih := serCells_set1 v r i p h
    rw [show (i + 1) * 2 = i * 2 + 1 + 1 by omega]
    show (a.1 :: a.2 :: serCells r).set (i * 2 + 1 + 1) v = a.1 :: a.2 :: serCells (r.set i (v, p.2))
    rw [List.set_cons_succ, List.set_cons_succ, ih]
theorem serCells_set2 (v : Value) : ∀ (l : List (Value × Value)) (i : Nat) (p : Value × Value), l[i]? = some p → (serCells l).set (i * 2 + 1) v = serCells (l.set i (p.1, v))
  | [], _, _, h => by simp at h
  | a :: r, 0, p, h => by simp at h; subst h; simp [serCells]
  | a :: r, i + 1, p, h => by
    simp only [List.getElem?_cons_succ] at h
    have ih := serCells_set2 v r i p h
    rw [show (i + 1) * 2 + 1 = i * 2 + 1 + 1 + 1 by omega]
    show (a.1 :: a.2 :: serCells r).set (i * 2 + 1 + 1 + 1) v = a.1 :: a.2 :: serCells (r.set i (p.1, v))
    rw [List.set_cons_succ, List.set_cons_succ, ih]
theorem serCells_set {w : World} {g T : Nat} {l : List (Value × Value)} (h : Blk w g T (serCells l)) (i : Nat) {p : Value × Value} (hp : l[i]? = some p) (v : Value) :
    Blk (w.setCell ⟨g, i * 2, none⟩ v) g T (serCells (l.set i (v, p.2))) ∧ Blk (w.setCell ⟨g, i * 2 + 1, none⟩ v) g T (serCells (l.set i (p.1, v))) := by
  rw [← serCells_set1 v l i p hp, ← serCells_set2 v l i p hp]
  exact ⟨h.set _ _, h.set _ _⟩
theorem serCells_app (a b : List (Value × Value)) : serCells (a ++ b) = serCells a ++ serCells b := by simp [serCells]
theorem serCells_rep (z : Value × Value) : ∀ n, serCells (List.replicate n z) = (madeCells #[z.1, z.2] (n * 2)).toList
  | 0 => by simp [serCells, madeCells]
  | n + 1 => by
    rw [List.replicate_succ', serCells_app, serCells_rep z n]
    apply List.ext_getElem?
    intro i
    simp only [madeCells, Array.toList_map, Array.toList_range, serCells]
    by_cases h : i < n * 2
    · rw [List.getElem?_append_left (by simpa using h)]
      simp [h, show i < (n + 1) * 2 by omega]
    · rw [List.getElem?_append_right (by simpa using h)]
      by_cases h2 : i < (n + 1) * 2
      · have e : i = n * 2 ∨ i = n * 2 + 1 := by omega
        rcases e with rfl | rfl
        · simp [show n * 2 < (n + 1) * 2 by omega]
        · simp [show n * 2 + 1 < (n + 1) * 2 by omega, Nat.add_mod]
      · simp [h2, show ¬ i - n * 2 < 2 by omega]
theorem serCells_rep_arr (z : Value × Value) (n : Nat) : (serCells (List.replicate n z)).toArray = madeCells #[z.1, z.2] (n * 2) := by rw [serCells_rep, Array.toArray_toList]
/-- A list with eight places more. -/
def roomP (ps : List (Value × Value)) (x z : Value × Value) (j : Nat) : List (Value × Value) := ps ++ (List.replicate j x ++ List.replicate (8 - j) z)
theorem roomP_length (ps : List (Value × Value)) (x z : Value × Value) (j : Nat) (h : j ≤ 8) : (roomP ps x z j).length = ps.length + 8 := by simp [roomP]; omega
theorem roomP_get (ps : List (Value × Value)) (x z : Value × Value) (j : Nat) (h : j < 8) : (roomP ps x z j)[ps.length + j]? = some z := by
  unfold roomP
  rw [List.getElem?_append_right (by omega), List.getElem?_append_right (by simp), List.length_replicate, List.getElem?_replicate, if_pos (by omega)]
theorem roomP_set (ps : List (Value × Value)) (x z : Value × Value) (j : Nat) (h : j < 8) : (roomP ps x z j).set (ps.length + j) x = roomP ps x z (j + 1) := by
  unfold roomP
  rw [List.set_append_right _ _ (by omega), List.set_append_right _ _ (by simp), show 8 - j = (8 - (j + 1)) + 1 by omega, List.replicate_succ]
  simp [List.replicate_succ']
theorem roomP_front (ps : List (Value × Value)) (x z : Value × Value) (j : Nat) {i : Nat} {p : Value × Value} (h : ps[i]? = some p) : (roomP ps x z j)[i]? = some p := by
  unfold roomP
  rw [List.getElem?_append_left (List.getElem?_eq_some_iff.1 h).1]; exact h
theorem roomP_back (ps : List (Value × Value)) (x z : Value × Value) {j : Nat} (h : j < 8) : (roomP ps x z 8)[ps.length + j]? = some x := by
  unfold roomP
  rw [List.getElem?_append_right (by omega), List.getElem?_append_left (by simp; omega), List.getElem?_replicate, if_pos (by omega)]

/-- copy of elements of any number of cells. -/
theorem run_copy_rows {P : Program} (w : World) (dT sT ty elem size : Nat) (g o dLen dCap : Nat) (a : Addr) (sLen sCap : Nat) (cur : Array Value) (t : TypeId) (cs : List Value)
    (hu : P.underlying dT = some (.slice elem)) (hs : (P.info? elem).map (·.size) = some size)
    (hg : w.heap[g]? = some (.cells cur t (0, 0))) (hn : cs.length = Nat.min sLen dLen * size)
    (hsrc : ∀ j v, cs[j]? = some v → w.cell? (a.add j) = some v) (hfit : o + cs.length ≤ cur.size) (h1 : ∀ v ∈ cs, v.oneCell' = true) :
    (Builtin.copy_ #[dT, sT] ty #[.slice (some ⟨g, o, none⟩) dLen dCap, .slice (some a) sLen sCap]).run P w =
      .ok (goInt (Nat.min sLen dLen)) (w.setRow g (cur.toList.take o ++ cs ++ cur.toList.drop (o + cs.length)).toArray) := by
  have hl := run_loadCells_list (P := P) w a cs hsrc
  have hst := run_storeCells_at P g o t cs 0 cur w hg (by simpa using hfit) h1
  cases hq : P.info? elem with
  | none => simp [hq] at hs
  | some i =>
    have hi : i.size = size := by simpa [hq] using hs
    simp [Builtin.copy_, run_underlying hu, Builtin.lenOf, Builtin.firstCells, sizeOf, typeInfo, hq, hi, ← hn, hl, hst]
theorem below_setRow (w : World) (g B : Nat) (cur : Array Value) (hg : B ≤ g) : Below B w (w.setRow g cur) := by
  refine ⟨rfl, rfl, rfl, by simp [World.setRow], fun k hk => ?_⟩
  unfold World.setRow
  simp only [Array.getElem?_modify]
  rw [if_neg (by omega)]

def labP (l : List Lab) : List (Value × Value) := l.map fun x => (.string x.1, .string x.2)
def samP (l : List (Int × Nat)) : List (Value × Value) := l.map fun x => (.int .i64 x.1, .int .u64 x.2)
theorem labP_cells (l : List Lab) : serCells (labP l) = labCells l := by simp [serCells, labP, labCells, List.flatMap_map]
theorem samP_cells (l : List (Int × Nat)) : serCells (samP l) = samCells l := by simp [serCells, samP, samCells, List.flatMap_map]
def bey : ByteArray := ⟨#[98, 101, 121, 111, 110, 100]⟩
/-- The slice is nil. -/
def isNil : Value → Bool
  | .slice none _ _ => true
  | _ => false
end Go.Proofs.YtcidgfdiacehmaaDoor

/- choirlaw's labels and samples: lists with room behind them. -/
namespace Go.Proofs.YtcidgfdiacehmaaDoor
open Go.RowKit Go.Lib

def labX : Value × Value := (.string bey, .string ByteArray.empty)
def labZ : Value × Value := (.string ByteArray.empty, .string ByteArray.empty)
def samX : Value × Value := (.int .i64 0, .int .u64 77)
def samZ : Value × Value := (.int .i64 0, .int .u64 0)
/-- A list with eight places of the caller's behind it; nil stays nil. -/
def Room (w : World) (base T : Nat) (x z : Value × Value) (v v' : Value) (ps : List (Value × Value)) : Prop :=
  (isNil v = true ∧ v' = .slice none 0 0 ∧ ps = []) ∨ (isNil v = false ∧ ∃ g, base ≤ g ∧ v' = .slice (some ⟨g, 0, none⟩) ps.length (ps.length + 8) ∧ Blk w g T (serCells (roomP ps x z 8)))
def RoomL (w : World) (base : Nat) (v v' : Value) (l : List Lab) : Prop := Room w base 42 labX labZ v v' (labP l)
def RoomS (w : World) (base : Nat) (v v' : Value) (l : List (Int × Nat)) : Prop := Room w base 56 samX samZ v v' (samP l)
theorem labP_length (l : List Lab) : (labP l).length = l.length := by simp [labP]
theorem samP_length (l : List (Int × Nat)) : (samP l).length = l.length := by simp [samP]

theorem addr_block (a : Addr) (j : Nat) : (a.add j).block = a.block := by unfold Addr.add; split <;> rfl
/-- What make and copy leave. -/
theorem room_start (w : World) (T e bytes : Nat) (x z : Value × Value) (i0 : TypeInfo) (hu : Tryd.prog.underlying T = some (.slice e)) (hi : Tryd.prog.info? e = some i0) (hz0 : i0.zero = some (.agg #[z.1, z.2])) (hzc : (Value.agg #[z.1, z.2]).cells = #[z.1, z.2]) (hz1 : i0.size = 2) (hz2 : i0.bytes = bytes)
    (a : Addr) (n cap : Nat) (ps : List (Value × Value)) (hn : ps.length = n) (hb : bytes * (n + 8) ≤ 281474976710656) (h63 : n ≤ 100000000000000) (hsrc : ∀ j v, (serCells ps)[j]? = some v → a.block < w.heap.size ∧ w.cell? (a.add j) = some v) (h1 : ∀ v ∈ serCells ps, v.oneCell' = true) :
    ∃ w0 w1, (Instr.makeSlice T (.int .i64 ((n : Int) + 8)) (.int .i64 ((n : Int) + 8))).run Tryd.prog w = .ok (.slice (some ⟨w.heap.size, 0, none⟩) (n + 8) (n + 8)) w0 ∧
      (∀ ty, (Builtin.copy_ #[T, T] ty #[.slice (some ⟨w.heap.size, 0, none⟩) (n + 8) (n + 8), .slice (some a) n cap]).run Tryd.prog w0 = .ok (goInt n) w1) ∧
      Blk w1 w.heap.size e (serCells (roomP ps x z 0)) ∧ Below w.heap.size w w1 := by
  have hbI : (bytes : Int) * ((n : Int) + 8) ≤ 281474976710656 := by
    have h := Int.ofNat_le.2 hb
    simpa only [Int.natCast_mul, Int.natCast_add, Int.cast_ofNat_Int] using h
  have hm := run_make (P := Tryd.prog) w T e i0 (.agg #[z.1, z.2]) hu hi hz0 .i64 .i64 ((n : Int) + 8) ((n : Int) + 8) (by omega) (by omega) (by rw [hz2]; exact hbI) (by omega)
  have e8 : ((n : Int) + 8).toNat = n + 8 := by omega
  rw [e8, hzc, hz1, ← serCells_rep_arr z (n + 8)] at hm
  have hB := Blk.new w e (serCells (List.replicate (n + 8) z))
  have hl : (serCells ps).length = n * 2 := by rw [serCells_length]; omega
  refine ⟨_, (w.alloc (.cells (serCells (List.replicate (n + 8) z)).toArray e)).setRow w.heap.size ((serCells (List.replicate (n + 8) z)).take 0 ++ serCells ps ++ (serCells (List.replicate (n + 8) z)).drop (0 + (serCells ps).length)).toArray, hm, fun ty => ?_, ?_, ?_⟩
  · have h := run_copy_rows (P := Tryd.prog) _ T T ty e 2 w.heap.size 0 (n + 8) (n + 8) a n cap _ e (serCells ps) hu (by rw [hi]; simp [hz1]) hB (by rw [hl, show Nat.min n (n + 8) = n from Nat.min_eq_left (by omega)]) (fun j v hj => ?_) (by rw [hl]; simp [serCells_length]; omega) h1
    · rw [show Nat.min n (n + 8) = n from Nat.min_eq_left (by omega)] at h
      exact h
    · obtain ⟨ha, hc⟩ := hsrc j v hj
      exact (World.cell?_of_block (a := a.add j) (heap_alloc_old w _ (by rw [addr_block]; exact ha))).trans hc
  · have h := setRow_heap _ w.heap.size _ ((serCells (List.replicate (n + 8) z)).take 0 ++ serCells ps ++ (serCells (List.replicate (n + 8) z)).drop (0 + (serCells ps).length)).toArray e (0, 0) hB
    have e2 : (serCells (List.replicate (n + 8) z)).take 0 ++ serCells ps ++ (serCells (List.replicate (n + 8) z)).drop (0 + (serCells ps).length) = serCells (roomP ps x z 0) := by
      rw [hl, List.take_zero, List.nil_append, Nat.zero_add, roomP, serCells_app, ← List.replicate_append_replicate, serCells_app, List.drop_left' (by rw [serCells_length]; simp; omega)]
      simp
    rw [e2] at h
    rw [e2]; exact h
  · exact ((Below.refl _ _).alloc (Nat.le_refl _) _).trans (below_setRow _ _ _ _ (Nat.le_refl _))

theorem lab_src {w : World} {B : Nat} {a : Addr} {n cap : Nat} {l : List Lab} (h : LabelsAt w B (.slice (some a) n cap) l) (hB : B ≤ w.heap.size) : ∀ j v, (serCells (labP l))[j]? = some v → a.block < w.heap.size ∧ w.cell? (a.add j) = some v := fun j v hj => by
  obtain ⟨a', c', hv, _, h2⟩ := h
  cases hv
  rcases h2 with h2 | ⟨b, o, ha, hb, hc⟩
  · subst h2; simp [labP, serCells] at hj
  · cases ha
    refine ⟨by show b < _; omega, ?_⟩
    have hl : j < 2 * l.length := by
      have := (List.getElem?_eq_some_iff.1 hj).1
      rw [serCells_length, labP_length] at this; exact this
    obtain ⟨x, hx⟩ : ∃ x, l[j / 2]? = some x := ⟨_, List.getElem?_eq_getElem (by omega)⟩
    have hp : (labP l)[j / 2]? = some (.string x.1, .string x.2) := by simp [labP, hx]
    have hg := serCells_get hp
    rw [addr_add]
    rcases Nat.mod_two_eq_zero_or_one j with e | e
    · have ej : j = j / 2 * 2 := by omega
      rw [ej] at hj ⊢
      rw [hg.1] at hj; cases hj
      exact (hc _ x hx).1
    · have ej : j = j / 2 * 2 + 1 := by omega
      rw [ej] at hj ⊢
      rw [hg.2] at hj; cases hj
      rw [← Nat.add_assoc]
      exact (hc _ x hx).2
theorem sam_src {w : World} {B : Nat} {a : Addr} {n cap : Nat} {l : List (Int × Nat)} (h : SamplesAt w B (.slice (some a) n cap) l) (hB : B ≤ w.heap.size) : ∀ j v, (serCells (samP l))[j]? = some v → a.block < w.heap.size ∧ w.cell? (a.add j) = some v := fun j v hj => by
  obtain ⟨a', c', hv, _, _, h2⟩ := h
  cases hv
  rcases h2 with h2 | ⟨b, o, ha, hb, hc⟩
  · subst h2; simp [samP, serCells] at hj
  · cases ha
    refine ⟨by show b < _; omega, ?_⟩
    have hl : j < 2 * l.length := by
      have := (List.getElem?_eq_some_iff.1 hj).1
      rw [serCells_length, samP_length] at this; exact this
    obtain ⟨x, hx⟩ : ∃ x, l[j / 2]? = some x := ⟨_, List.getElem?_eq_getElem (by omega)⟩
    have hp : (samP l)[j / 2]? = some (.int .i64 x.1, .int .u64 x.2) := by simp [samP, hx]
    have hg := serCells_get hp
    rw [addr_add]
    rcases Nat.mod_two_eq_zero_or_one j with e | e
    · have ej : j = j / 2 * 2 := by omega
      rw [ej] at hj ⊢
      rw [hg.1] at hj; cases hj
      exact (hc _ x hx).1
    · have ej : j = j / 2 * 2 + 1 := by omega
      rw [ej] at hj ⊢
      rw [hg.2] at hj; cases hj
      rw [← Nat.add_assoc]
      exact (hc _ x hx).2
theorem lab_one (l : List Lab) : ∀ v ∈ serCells (labP l), v.oneCell' = true := fun v hv => by
  rw [labP_cells] at hv
  simp only [labCells, List.mem_flatMap] at hv
  obtain ⟨x, _, hx⟩ := hv
  simp at hx
  rcases hx with rfl | rfl <;> rfl
theorem sam_one (l : List (Int × Nat)) : ∀ v ∈ serCells (samP l), v.oneCell' = true := fun v hv => by
  rw [samP_cells] at hv
  simp only [samCells, List.mem_flatMap] at hv
  obtain ⟨x, _, hx⟩ := hv
  simp at hx
  rcases hx with rfl | rfl <;> rfl

set_option maxRecDepth 100000 in
set_option maxHeartbeats 400000 in
theorem llabels_any (B : Nat) (v : Value) (l : List Lab) (w : World) (hL : LabelsAt w B v l) (hB : B ≤ w.heap.size) (hl : l.length ≤ 4400000000000) :
    Calls Tryd.prog 19 #[v] w fun e w' => ∃ v', e = .returned v' ∧ RoomL w' w.heap.size v v' l ∧ Below w.heap.size w w' := by
  obtain ⟨i0, hi, hz0, hz1, hz2⟩ := info_parts Tryd.infoLab
  obtain ⟨a, cap, rfl, hcap, h2⟩ := id hL
  have hnil : ∀ (W : World) a n c, (binOp .eql 43 (.slice a n c) (.slice none 0 0)).run Tryd.prog W = .ok (.bool a.isNone) W := fun W a n c => Lib.run_eql_slice_nil W 43 42 a n c 0 0 Tryd.underlying43
  cases a with
  | none =>
    have hl0 : l = [] := by
      rcases h2 with h | ⟨b, o, h, _⟩
      · exact h
      · cases h
    subst hl0
    clear hL h2
    go_enter Tryd.func19, Tryd.ntmps19
    go_wp2
    go_ret
    exact ⟨_, rfl, .inl ⟨rfl, rfl, rfl⟩, Below.refl _ _⟩
  | some a =>
    obtain ⟨w0, w1, hmk, hcp, hB1, hbl⟩ := room_start w 43 42 32 labX labZ i0 Tryd.underlying43 hi hz0 rfl hz1 hz2 a l.length cap (labP l) (labP_length l) (by omega) (by omega) (lab_src hL hB) (lab_one l)
    have HB1 := hide hB1
    have HBl := hide hbl
    have hlen := labP_length l
    clear hL h2 hi hz0 hz1 hz2 hB1 hbl
    go_enter Tryd.func19, Tryd.ntmps19
    go_wp2_with (at_builtin; refine Lib.wpList_copy_run _ rfl _ _ 43 43 rfl _ _ rfl rfl (hcp _) ?_)
    clear hmk hcp
    go_loopw [5] (fun i wr => ∃ j : Nat, j ≤ 8 ∧ i = .int .i64 ((l.length + j : Nat) : Int) ∧ Hid (Blk wr w.heap.size 42 (serCells (roomP (labP l) labX labZ j))) ∧ Below w.heap.size w wr) (fun i _ => l.length + 8 - (intOf i).toNat)
    case atStart => exact ⟨0, by omega, rfl, HB1.out, HBl.out⟩
    case round =>
      obtain ⟨j, hj, rfl, HK, hbl⟩ := hrel
      have HBl2 := hide hbl
      clear hbl HB1 HBl
      by_cases hlt : j < 8
      · have hg : (roomP (labP l) labX labZ j)[l.length + j]? = some labZ := by have := roomP_get (labP l) labX labZ j hlt; rw [hlen] at this; exact this
        have c1 := HK.out.cell (serCells_get hg).1
        have f1 := HK.out.frozen ((l.length + j) * 2)
        have hn := (serCells_set HK.out (l.length + j) hg (.string bey)).1
        have hs := roomP_set (labP l) labX labZ j hlt
        rw [hlen] at hs
        rw [show ((Value.string bey, labZ.2) : Value × Value) = labX from rfl, hs] at hn
        have HN := hide hn
        have h8 : ((l.length + j : Nat) : Int) < (l.length : Int) + 8 := by omega
        clear hg hn hs HK
        simp only [labZ] at c1
        go_wp2
        go_roundw
        case rel => exact ⟨j + 1, by omega, by go_num, HN.out, HBl2.out.setCell (Nat.le_refl _) _⟩
        case measure => simp [intOf]; omega
      · obtain rfl : j = 8 := by omega
        go_wp2
        go_ret
        exact ⟨_, rfl, .inr ⟨rfl, w.heap.size, Nat.le_refl _, by rw [hlen]; rfl, HK.out⟩, HBl2.out⟩
set_option maxRecDepth 100000 in
set_option maxHeartbeats 400000 in
theorem lsamples_any (B : Nat) (v : Value) (l : List (Int × Nat)) (w : World) (hL : SamplesAt w B v l) (hB : B ≤ w.heap.size) (hl : l.length ≤ 8800000000000) :
    Calls Tryd.prog 20 #[v] w fun e w' => ∃ v', e = .returned v' ∧ RoomS w' w.heap.size v v' l ∧ Below w.heap.size w w' := by
  obtain ⟨i0, hi, hz0, hz1, hz2⟩ := info_parts Tryd.infoSam
  obtain ⟨a, cap, rfl, hcap, _, h2⟩ := id hL
  have hnil : ∀ (W : World) a n c, (binOp .eql 44 (.slice a n c) (.slice none 0 0)).run Tryd.prog W = .ok (.bool a.isNone) W := fun W a n c => Lib.run_eql_slice_nil W 44 56 a n c 0 0 Tryd.underlying44
  cases a with
  | none =>
    have hl0 : l = [] := by
      rcases h2 with h | ⟨b, o, h, _⟩
      · exact h
      · cases h
    subst hl0
    clear hL h2
    go_enter Tryd.func20, Tryd.ntmps20
    go_wp2
    go_ret
    exact ⟨_, rfl, .inl ⟨rfl, rfl, rfl⟩, Below.refl _ _⟩
  | some a =>
    obtain ⟨w0, w1, hmk, hcp, hB1, hbl⟩ := room_start w 44 56 16 samX samZ i0 Tryd.underlying44 hi hz0 rfl hz1 hz2 a l.length cap (samP l) (samP_length l) (by omega) (by omega) (sam_src hL hB) (sam_one l)
    have HB1 := hide hB1
    have HBl := hide hbl
    have hlen := samP_length l
    clear hL h2 hi hz0 hz1 hz2 hB1 hbl
    go_enter Tryd.func20, Tryd.ntmps20
    go_wp2_with (at_builtin; refine Lib.wpList_copy_run _ rfl _ _ 44 44 rfl _ _ rfl rfl (hcp _) ?_)
    clear hmk hcp
    go_loopw [5] (fun i wr => ∃ j : Nat, j ≤ 8 ∧ i = .int .i64 ((l.length + j : Nat) : Int) ∧ Hid (Blk wr w.heap.size 56 (serCells (roomP (samP l) samX samZ j))) ∧ Below w.heap.size w wr) (fun i _ => l.length + 8 - (intOf i).toNat)
    case atStart => exact ⟨0, by omega, rfl, HB1.out, HBl.out⟩
    case round =>
      obtain ⟨j, hj, rfl, HK, hbl⟩ := hrel
      have HBl2 := hide hbl
      clear hbl HB1 HBl
      by_cases hlt : j < 8
      · have hg : (roomP (samP l) samX samZ j)[l.length + j]? = some samZ := by have := roomP_get (samP l) samX samZ j hlt; rw [hlen] at this; exact this
        have c1 := HK.out.cell (serCells_get hg).2
        have f1 := HK.out.frozen ((l.length + j) * 2 + 1)
        have hn := (serCells_set HK.out (l.length + j) hg (.int .u64 77)).2
        have hs := roomP_set (samP l) samX samZ j hlt
        rw [hlen] at hs
        rw [show ((samZ.1, Value.int .u64 77) : Value × Value) = samX from rfl, hs] at hn
        have HN := hide hn
        have h8 : ((l.length + j : Nat) : Int) < (l.length : Int) + 8 := by omega
        clear hg hn hs HK
        simp only [samZ] at c1
        go_wp2
        go_roundw
        case rel => exact ⟨j + 1, by omega, by go_num, HN.out, HBl2.out.setCell (Nat.le_refl _) _⟩
        case measure => simp [intOf]; omega
      · obtain rfl : j = 8 := by omega
        go_wp2
        go_ret
        exact ⟨_, rfl, .inr ⟨rfl, w.heap.size, Nat.le_refl _, by rw [hlen]; rfl, HK.out⟩, HBl2.out⟩
end Go.Proofs.YtcidgfdiacehmaaDoor

/- choirlaw's roomy. -/
namespace Go.Proofs.YtcidgfdiacehmaaDoor
open Go.RowKit Go.Lib

/-- A batch that came in, with the values of its lists. -/
def BatchV (w : World) (B : Nat) (v : Value) (vals : List (Value × Value)) (bs : List Ser) : Prop :=
  vals.length = bs.length ∧ ∃ a cap, v = .slice a bs.length cap ∧ bs.length ≤ cap ∧
    (bs = [] ∨ ∃ b o, a = some ⟨b, o, none⟩ ∧ b < B ∧ ∀ i p, vals[i]? = some p → w.cell? ⟨b, o + i * 2, none⟩ = some p.1 ∧ w.cell? ⟨b, o + i * 2 + 1, none⟩ = some p.2) ∧
    ∀ (i : Nat) (p : Value × Value) (x : Ser), vals[i]? = some p → bs[i]? = some x → LabelsAt w B p.1 x.1 ∧ SamplesAt w B p.2 x.2
theorem BatchAt.vals {w : World} {B : Nat} {v : Value} {bs : List Ser} (h : BatchAt w B v bs) : ∃ vals, BatchV w B v vals bs := by
  obtain ⟨a, cap, hv, hcap, h2⟩ := h
  rcases h2 with h2 | ⟨b, o, ha, hb, hc⟩
  · subst h2
    exact ⟨[], rfl, a, cap, hv, hcap, .inl rfl, fun i p x hp => by simp at hp⟩
  · have each : ∀ i, i < bs.length → ∃ p : Value × Value, ∃ x, bs[i]? = some x ∧ w.cell? ⟨b, o + i * 2, none⟩ = some p.1 ∧ w.cell? ⟨b, o + i * 2 + 1, none⟩ = some p.2 ∧ LabelsAt w B p.1 x.1 ∧ SamplesAt w B p.2 x.2 := fun i hi => by
      obtain ⟨lv, sv, h⟩ := hc i bs[i] (List.getElem?_eq_getElem hi)
      exact ⟨(lv, sv), bs[i], List.getElem?_eq_getElem hi, h⟩
    obtain ⟨F, hF⟩ := Go.Deep.choose_lt each
    have hg : ∀ i p, ((List.range bs.length).map F)[i]? = some p → i < bs.length ∧ p = F i := fun i p hp => by
      have hi : i < bs.length := by have := (List.getElem?_eq_some_iff.1 hp).1; simpa using this
      rw [List.getElem?_map, List.getElem?_range hi] at hp
      exact ⟨hi, (Option.some.inj hp).symm⟩
    refine ⟨(List.range bs.length).map F, by simp, a, cap, hv, hcap, .inr ⟨b, o, ha, hb, fun i p hp => ?_⟩, fun i p x hp hx => ?_⟩
    · obtain ⟨hi, rfl⟩ := hg i p hp
      obtain ⟨x, _, h1, h2, _⟩ := hF i hi
      exact ⟨h1, h2⟩
    · obtain ⟨hi, rfl⟩ := hg i p hp
      obtain ⟨y, hy, _, _, h3, h4⟩ := hF i hi
      rw [hy] at hx; cases hx
      exact ⟨h3, h4⟩
theorem BatchV.batchAt {w : World} {B : Nat} {v : Value} {vals : List (Value × Value)} {bs : List Ser} (h : BatchV w B v vals bs) : BatchAt w B v bs := by
  obtain ⟨hl, a, cap, hv, hcap, h2, h3⟩ := h
  refine ⟨a, cap, hv, hcap, ?_⟩
  rcases h2 with h2 | ⟨b, o, ha, hb, hc⟩
  · exact .inl h2
  · refine .inr ⟨b, o, ha, hb, fun i x hx => ?_⟩
    obtain ⟨p, hp⟩ : ∃ p, vals[i]? = some p := ⟨_, List.getElem?_eq_getElem (by rw [hl]; exact (List.getElem?_eq_some_iff.1 hx).1)⟩
    exact ⟨p.1, p.2, (hc i p hp).1, (hc i p hp).2, (h3 i p x hp hx).1, (h3 i p x hp hx).2⟩
theorem BatchV.kept {w w' : World} {B : Nat} {v : Value} {vals : List (Value × Value)} {bs : List Ser} (h : BatchV w B v vals bs) (hk : ∀ k, k < B → w'.heap[k]? = w.heap[k]?) : BatchV w' B v vals bs := by
  obtain ⟨hl, a, cap, hv, hcap, h2, h3⟩ := h
  refine ⟨hl, a, cap, hv, hcap, ?_, fun i p x hp hx => ⟨(h3 i p x hp hx).1.kept hk, (h3 i p x hp hx).2.kept hk⟩⟩
  rcases h2 with h2 | ⟨b, o, ha, hb, hc⟩
  · exact .inl h2
  · exact .inr ⟨b, o, ha, hb, fun i p hp => ⟨(World.cell?_of_block (a := ⟨b, o + i * 2, none⟩) (hk b hb)).trans (hc i p hp).1, (World.cell?_of_block (a := ⟨b, o + i * 2 + 1, none⟩) (hk b hb)).trans (hc i p hp).2⟩⟩
theorem BatchV.below {w w' : World} {B B' : Nat} {v : Value} {vals : List (Value × Value)} {bs : List Ser} (h : BatchV w B v vals bs) (hb : Below B' w w') (hB : B ≤ B') : BatchV w' B v vals bs := h.kept fun k hk => hb.block k (by omega)

/-- The lists of one series, with room. -/
structure Roomed (w : World) (base : Nat) (p q : Value × Value) (x : Ser) : Prop where
  labels : RoomL w base p.1 q.1 x.1
  samples : RoomS w base p.2 q.2 x.2
/-- Blocks that are one behind the other: each list's own. -/
def Apart (rv : List (Value × Value)) (g : Nat) (bb : List Nat) : Prop :=
  ∀ (i : Nat) (q : Value × Value) (k : Nat), rv[i]? = some q → q.2.ownBlock = some k → k ≠ g ∧ k ∉ bb ∧ (∀ (j : Nat) (r : Value × Value), rv[j]? = some r → r.1.ownBlock ≠ some k ∧ (j ≠ i → r.2.ownBlock ≠ some k))
/-- The value of a list beyond the end. -/
def beyV (q : Nat) : Value × Value := (.slice (some ⟨q, 0, none⟩) 1 1, .slice none 0 0)
/-- What roomy makes. -/
def RoomB (w : World) (base : Nat) (v r : Value) (vals : List (Value × Value)) (bs : List Ser) (rv : List (Value × Value)) : Prop :=
  (isNil v = true ∧ r = .slice none 0 0 ∧ bs = [] ∧ rv = []) ∨ (isNil v = false ∧ ∃ g bb, base ≤ g ∧ r = .slice (some ⟨g, 0, none⟩) bs.length (bs.length + 8) ∧ rv.length = bs.length ∧ bb.length = 8 ∧
    Blk w g 46 (serCells (rv ++ bb.map beyV)) ∧ (∀ q ∈ bb, base ≤ q ∧ Blk w q 42 [.string bey, .string ByteArray.empty]) ∧
    (∀ (i : Nat) (p q : Value × Value) (x : Ser), vals[i]? = some p → rv[i]? = some q → bs[i]? = some x → Roomed w base p q x) ∧ Apart rv g bb)

theorem Room.own {w : World} {base T : Nat} {x z : Value × Value} {v v' : Value} {ps : List (Value × Value)} (h : Room w base T x z v v' ps) {k : Nat} (hk : v'.ownBlock = some k) : base ≤ k ∧ k < w.heap.size := by
  rcases h with ⟨_, rfl, _⟩ | ⟨_, g, hg, rfl, hB⟩
  · cases hk
  · cases hk; exact ⟨hg, hB.lt⟩
theorem Room.kept {w w' : World} {base T : Nat} {x z : Value × Value} {v v' : Value} {ps : List (Value × Value)} (h : Room w base T x z v v' ps) (hk : ∀ k, v'.ownBlock = some k → w'.heap[k]? = w.heap[k]?) : Room w' base T x z v v' ps := by
  rcases h with h | ⟨h1, g, hg, rfl, hB⟩
  · exact .inl h
  · exact .inr ⟨h1, g, hg, rfl, hB.kept (hk g rfl)⟩
theorem Room.mono {w : World} {base base' T : Nat} {x z : Value × Value} {v v' : Value} {ps : List (Value × Value)} (h : Room w base T x z v v' ps) (hb : base' ≤ base) : Room w base' T x z v v' ps := by
  rcases h with h | ⟨h1, g, hg, h2, hB⟩
  · exact .inl h
  · exact .inr ⟨h1, g, by omega, h2, hB⟩
theorem Roomed.kept {w w' : World} {base : Nat} {p q : Value × Value} {x : Ser} (h : Roomed w base p q x) (hk : ∀ k, q.1.ownBlock = some k ∨ q.2.ownBlock = some k → w'.heap[k]? = w.heap[k]?) : Roomed w' base p q x :=
  ⟨Room.kept h.labels fun k e => hk k (.inl e), Room.kept h.samples fun k e => hk k (.inr e)⟩

def nilP : Value × Value := (.slice none 0 0, .slice none 0 0)
/-- How far roomy has come. -/
structure Stage (w W : World) (g : Nat) (vals : List (Value × Value)) (bs : List Ser) (rv : List (Value × Value)) (bb : List Nat) : Prop where
  blk : Blk W g 46 (serCells (rv ++ bb.map beyV ++ List.replicate (bs.length + 8 - (rv.length + bb.length)) nilP))
  below : Below w.heap.size w W
  base : w.heap.size ≤ g
  bey : ∀ q ∈ bb, w.heap.size ≤ q ∧ q ≠ g ∧ Blk W q 42 [.string bey, .string ByteArray.empty]
  room : ∀ (i : Nat) (p q : Value × Value) (x : Ser), vals[i]? = some p → rv[i]? = some q → bs[i]? = some x → Roomed W w.heap.size p q x
  own : ∀ (i : Nat) (q : Value × Value) (k : Nat), rv[i]? = some q → q.1.ownBlock = some k ∨ q.2.ownBlock = some k → w.heap.size ≤ k ∧ k < W.heap.size ∧ k ≠ g
  apart : Apart rv g bb
theorem getElem?_snoc {α : Type} {l : List α} {a x : α} {i : Nat} (h : (l ++ [a])[i]? = some x) : (i < l.length ∧ l[i]? = some x) ∨ (i = l.length ∧ x = a) := by
  by_cases hi : i < l.length
  · rw [List.getElem?_append_left hi] at h; exact .inl ⟨hi, h⟩
  · have h2 : i < l.length + 1 := by have := (List.getElem?_eq_some_iff.1 h).1; simpa using this
    obtain rfl : i = l.length := by omega
    rw [List.getElem?_append_right (Nat.le_refl _), Nat.sub_self] at h
    exact .inr ⟨rfl, by simpa using h.symm⟩
theorem stage_set (rv : List (Value × Value)) (bb : List Nat) (n : Nat) (p : Value × Value) (h : rv.length + bb.length < n + 8) :
    (rv ++ bb.map beyV ++ List.replicate (n + 8 - (rv.length + bb.length)) nilP)[rv.length + bb.length]? = some nilP ∧
    (rv ++ bb.map beyV ++ List.replicate (n + 8 - (rv.length + bb.length)) nilP).set (rv.length + bb.length) p = rv ++ bb.map beyV ++ (p :: List.replicate (n + 8 - (rv.length + bb.length + 1)) nilP) := by
  have e : n + 8 - (rv.length + bb.length) = (n + 8 - (rv.length + bb.length + 1)) + 1 := by omega
  rw [e, List.replicate_succ]
  constructor
  · rw [List.getElem?_append_right (by simp)]; simp
  · rw [List.set_append_right _ _ (by simp)]; simp
/-- One series more. -/
theorem Stage.more {w W W2 W3 : World} {g : Nat} {vals : List (Value × Value)} {bs : List Ser} {rv : List (Value × Value)} (h : Stage w W g vals bs rv []) (hlt : rv.length < bs.length) {q : Value × Value}
    (hb : Below W.heap.size W W2) (hR : ∀ p x, vals[rv.length]? = some p → bs[rv.length]? = some x → Roomed W2 w.heap.size p q x)
    (hq1 : ∀ k, q.1.ownBlock = some k → W.heap.size ≤ k ∧ k < W2.heap.size) (hq2 : ∀ k, q.2.ownBlock = some k → W.heap.size ≤ k ∧ k < W2.heap.size) (hq : ∀ k, q.1.ownBlock = some k → q.2.ownBlock ≠ some k)
    (h3 : W3 = (W2.setCell ⟨g, rv.length * 2, none⟩ q.1).setCell ⟨g, rv.length * 2 + 1, none⟩ q.2) : Stage w W3 g vals bs (rv ++ [q]) [] := by
  have hg := h.blk.lt
  have hB2 := h.blk.below hb hg
  have hs := stage_set rv [] bs.length q (by simp; omega)
  have e1 := (serCells_set hB2 (rv.length + ([] : List Nat).length) hs.1 q.1).1
  have hs1 : ((rv ++ ([] : List Nat).map beyV ++ List.replicate (bs.length + 8 - (rv.length + ([] : List Nat).length)) nilP).set (rv.length + ([] : List Nat).length) (q.1, nilP.2))[rv.length + ([] : List Nat).length]? = some (q.1, nilP.2) := by
    rw [List.getElem?_set_self (List.getElem?_eq_some_iff.1 hs.1).1]
  have e2 := (serCells_set e1 (rv.length + ([] : List Nat).length) hs1 q.2).2
  rw [List.set_set, show ((q.1, q.2) : Value × Value) = q from rfl, hs.2] at e2
  simp only [List.length_nil, Nat.add_zero] at e2
  have hk3 : ∀ k, k ≠ g → W3.heap[k]? = W2.heap[k]? := fun k hk => by
    rw [h3, Below.heap_setCell _ _ _ k hk, Below.heap_setCell _ _ _ k hk]
  have hsz3 : W3.heap.size = W2.heap.size := by rw [h3]; simp
  have hsz := hb.size
  refine ⟨?_, ?_, h.base, (fun x hx => by cases hx), fun i p r x hp hr hx => ?_, fun i r k hr hk => ?_, fun i r k hr hk => ?_⟩
  · rw [h3]
    simpa using e2
  · rw [h3]
    exact ((h.below.trans (hb.mono h.below.size)).setCell h.base _).setCell h.base _
  · rcases getElem?_snoc hr with ⟨hi, hr⟩ | ⟨rfl, rfl⟩
    · refine (h.room i p r x hp hr hx).kept fun k hk => ?_
      obtain ⟨o1, o2, o3⟩ := h.own i r k hr hk
      rw [hk3 k o3]; exact hb.block k o2
    · refine (hR p x hp hx).kept fun k hk => hk3 k ?_
      rcases hk with hk | hk
      · have := hq1 k hk; omega
      · have := hq2 k hk; omega
  · rcases getElem?_snoc hr with ⟨hi, hr⟩ | ⟨rfl, rfl⟩
    · obtain ⟨o1, o2, o3⟩ := h.own i r k hr hk
      exact ⟨o1, by omega, o3⟩
    · have hws := h.below.size
      rcases hk with hk | hk
      · have := hq1 k hk; exact ⟨by omega, by omega, by omega⟩
      · have := hq2 k hk; exact ⟨by omega, by omega, by omega⟩
  · rcases getElem?_snoc hr with ⟨hi, hr⟩ | ⟨rfl, rfl⟩
    · obtain ⟨a1, a2, a3⟩ := h.apart i r k hr hk
      obtain ⟨o1, o2, o3⟩ := h.own i r k hr (.inr hk)
      refine ⟨a1, a2, fun j s hs => ?_⟩
      rcases getElem?_snoc hs with ⟨hj, hs⟩ | ⟨rfl, rfl⟩
      · exact a3 j s hs
      · exact ⟨fun e => by have := hq1 k e; omega, fun _ e => by have := hq2 k e; omega⟩
    · have hk2 := hq2 k hk
      refine ⟨by omega, by simp, fun j s hs => ?_⟩
      rcases getElem?_snoc hs with ⟨hj, hs⟩ | ⟨rfl, rfl⟩
      · exact ⟨fun e => by have := h.own j s k hs (.inl e); omega, fun _ e => by have := h.own j s k hs (.inr e); omega⟩
      · exact ⟨fun e => hq k e hk, fun hne => absurd rfl hne⟩
/-- One place beyond the end. -/
theorem Stage.beyond {w W W3 : World} {g : Nat} {vals : List (Value × Value)} {bs : List Ser} {rv : List (Value × Value)} {bb : List Nat} (h : Stage w W g vals bs rv bb) (hlt : rv.length + bb.length < bs.length + 8)
    (h3 : W3 = (W.setCell ⟨g, (rv.length + bb.length) * 2, none⟩ (.slice (some ⟨W.heap.size, 0, none⟩) 1 1)).alloc (.cells #[.string Go.Proofs.YtcidgfdiacehmaaDoor.bey, .string ByteArray.empty] 42)) : Stage w W3 g vals bs rv (bb ++ [W.heap.size]) := by
  have hg := h.blk.lt
  have hB2 := h.blk
  have hs := stage_set rv bb bs.length (beyV W.heap.size) hlt
  have e1 := (serCells_set hB2 (rv.length + bb.length) hs.1 (beyV W.heap.size).1).1
  rw [show (((beyV W.heap.size).1, nilP.2) : Value × Value) = beyV W.heap.size from rfl, hs.2] at e1
  have hk3 : ∀ k, k ≠ g → k < W.heap.size → W3.heap[k]? = W.heap[k]? := fun k hk hl => by
    rw [h3]
    exact (heap_alloc_old _ _ (by simpa using hl)).trans (Below.heap_setCell _ _ _ k hk)
  have hsz3 : W3.heap.size = W.heap.size + 1 := by rw [h3]; simp
  have hws := h.below.size
  refine ⟨?_, ?_, h.base, fun q hq => ?_, fun i p r x hp hr hx => ?_, fun i r k hr hk => ?_, fun i r k hr hk => ?_⟩
  · rw [h3]
    simp only [List.map_append, List.map_cons, List.map_nil, List.length_append, List.length_singleton]
    rw [show rv ++ (bb.map beyV ++ [beyV W.heap.size]) ++ List.replicate (bs.length + 8 - (rv.length + (bb.length + 1))) nilP = rv ++ bb.map beyV ++ (beyV W.heap.size :: List.replicate (bs.length + 8 - (rv.length + bb.length + 1)) nilP) by simp [Nat.add_assoc]]
    exact e1.alloc _
  · rw [h3]
    exact (h.below.setCell h.base _).alloc (by simpa using h.below.size) _
  · rcases List.mem_append.1 hq with hq | hq
    · obtain ⟨q1, q2, q3⟩ := h.bey q hq
      exact ⟨q1, q2, q3.kept (hk3 q q2 q3.lt)⟩
    · simp at hq; subst hq
      refine ⟨by omega, by omega, ?_⟩
      have := Blk.new (W.setCell ⟨g, (rv.length + bb.length) * 2, none⟩ (.slice (some ⟨W.heap.size, 0, none⟩) 1 1)) 42 [.string Go.Proofs.YtcidgfdiacehmaaDoor.bey, .string ByteArray.empty]
      rw [h3]
      simpa using this
  · refine (h.room i p r x hp hr hx).kept fun k hk => ?_
    obtain ⟨o1, o2, o3⟩ := h.own i r k hr hk
    exact hk3 k o3 o2
  · obtain ⟨o1, o2, o3⟩ := h.own i r k hr hk
    exact ⟨o1, by omega, o3⟩
  · obtain ⟨a1, a2, a3⟩ := h.apart i r k hr hk
    obtain ⟨o1, o2, o3⟩ := h.own i r k hr (.inr hk)
    refine ⟨a1, fun hm => ?_, a3⟩
    rcases List.mem_append.1 hm with hm | hm
    · exact a2 hm
    · simp at hm; omega
end Go.Proofs.YtcidgfdiacehmaaDoor

/- choirlaw's roomy: the walk. -/
namespace Go.Proofs.YtcidgfdiacehmaaDoor
open Go.RowKit Go.Lib

theorem room_shape {w : World} {base T : Nat} {x z : Value × Value} {v v' : Value} {ps : List (Value × Value)} (h : Room w base T x z v v' ps) : ∃ a n c, v' = .slice a n c := by
  rcases h with ⟨_, rfl, _⟩ | ⟨_, g, _, rfl, _⟩ <;> exact ⟨_, _, _, rfl⟩

set_option maxRecDepth 100000 in
set_option maxHeartbeats 1000000 in
theorem roomy_any (B : Nat) (v : Value) (vals : List (Value × Value)) (bs : List Ser) (w : World) (hV : BatchV w B v vals bs) (hB : B ≤ w.heap.size) (hl : bs.length ≤ 3000000000000) (hll : ∀ s ∈ bs, s.1.length ≤ 4400000000000 ∧ s.2.length ≤ 8800000000000) :
    Calls Tryd.prog 7 #[v] w fun e w' => ∃ r, e = .returned r ∧ (∃ rv, RoomB w' w.heap.size v r vals bs rv) ∧ Below w.heap.size w w' := by
  obtain ⟨i0, hi, hz0, hz1, hz2⟩ := info_parts Tryd.infoSer
  obtain ⟨hvl, a, cap, rfl, hcap, h2, h3⟩ := id hV
  have hnil : ∀ (W : World) a n c, (binOp .eql 22 (.slice a n c) (.slice none 0 0)).run Tryd.prog W = .ok (.bool a.isNone) W := fun W a n c => Lib.run_eql_slice_nil W 22 46 a n c 0 0 Tryd.underlying22
  cases a with
  | none =>
    have hl0 : bs = [] := by
      rcases h2 with h | ⟨b, o, h, _⟩
      · exact h
      · cases h
    subst hl0
    clear hV h2 h3
    go_enter Tryd.func7, Tryd.ntmps7
    go_wp2
    go_ret
    exact ⟨_, rfl, ⟨[], .inl ⟨rfl, rfl, rfl, rfl⟩⟩, Below.refl _ _⟩
  | some a =>
    obtain ⟨w0, hmk, HS0⟩ : ∃ w0, (Instr.makeSlice 22 (.int .i64 ((bs.length : Int) + 8)) (.int .i64 ((bs.length : Int) + 8))).run Tryd.prog w = .ok (.slice (some ⟨w.heap.size, 0, none⟩) (bs.length + 8) (bs.length + 8)) w0 ∧ Hid (Stage w w0 w.heap.size vals bs [] []) := by
      have hm := run_make (P := Tryd.prog) w 22 46 i0 (.agg #[nilP.1, nilP.2]) Tryd.underlying22 hi hz0 .i64 .i64 ((bs.length : Int) + 8) ((bs.length : Int) + 8) (by omega) (by omega) (by rw [hz2]; omega) (by omega)
      have e8 : ((bs.length : Int) + 8).toNat = bs.length + 8 := by omega
      have e9 : (Value.agg #[nilP.1, nilP.2]).cells = #[nilP.1, nilP.2] := rfl
      rw [e8, hz1, e9, ← serCells_rep_arr nilP (bs.length + 8)] at hm
      refine ⟨_, hm, ⟨?_, (Below.refl _ _).alloc (Nat.le_refl _) _, Nat.le_refl _, (fun q h => by cases h), (fun i p q x _ h => by simp at h), (fun i q k h => by simp at h), (fun i q k h => by simp at h)⟩⟩
      have := Blk.new w 46 (serCells (List.replicate (bs.length + 8) nilP))
      simpa using this
    have HV := hide hV
    have HLL := hide hll
    clear hV h2 h3 hi hz0 hz1 hz2 hll
    go_enter Tryd.func7, Tryd.ntmps7
    go_wp2
    clear hmk
    go_loopw [5] (fun i wr => ∃ (rv : List (Value × Value)) (bb : List Nat), i = .int .i64 ((rv.length + bb.length : Nat) : Int) ∧ rv.length ≤ bs.length ∧ rv.length + bb.length ≤ bs.length + 8 ∧ (rv.length = bs.length ∨ bb = []) ∧ Hid (Stage w wr w.heap.size vals bs rv bb)) (fun i _ => bs.length + 8 - (intOf i).toNat)
    case atStart => exact ⟨[], [], rfl, by simp, by simp, .inr rfl, HS0.out⟩
    case round =>
      obtain ⟨rv, bb, rfl, h1, h2, h3, HS⟩ := hrel
      clear HS0
      by_cases hlt : rv.length + bb.length < bs.length + 8
      · by_cases hin : rv.length < bs.length
        · obtain rfl : bb = [] := by rcases h3 with h3 | h3; omega; exact h3
          obtain ⟨x, hx⟩ : ∃ x, bs[rv.length]? = some x := ⟨_, List.getElem?_eq_getElem hin⟩
          obtain ⟨p, hp⟩ : ∃ p, vals[rv.length]? = some p := ⟨_, List.getElem?_eq_getElem (by omega)⟩
          have hbl := HS.out.below
          have hsz := hbl.size
          have hgl := HS.out.blk.lt
          obtain ⟨_, _, _, hv4, _, h5, h6⟩ := HV.out
          cases hv4
          obtain ⟨hLa, hSa⟩ := h6 _ p x hp hx
          have hcc : ∃ b o, a = ⟨b, o, none⟩ ∧ b < B ∧ w.cell? ⟨b, o + rv.length * 2, none⟩ = some p.1 ∧ w.cell? ⟨b, o + rv.length * 2 + 1, none⟩ = some p.2 := by
            rcases h5 with h5 | ⟨b, o, ha, hb, hc⟩
            · rw [h5] at hin; simp at hin
            · exact ⟨b, o, Option.some.inj ha, hb, hc _ p hp⟩
          obtain ⟨b, o, rfl, hbB, c1, c2⟩ := hcc
          have hbw : b < w.heap.size := by omega
          have m1 := (hbl.cell (p := ⟨b, o + rv.length * 2, none⟩) hbw).trans c1
          have m2 := (hbl.cell (p := ⟨b, o + rv.length * 2 + 1, none⟩) hbw).trans c2
          have hxl := HLL.out x (List.mem_of_getElem? hx)
          have CL : Hid (∀ W, W.heap = wr.heap → Calls Tryd.prog 19 #[p.1] W fun e w' => ∃ v', e = .returned v' ∧ RoomL w' wr.heap.size p.1 v' x.1 ∧ Below wr.heap.size W w') := fun W hW => by
            have h := llabels_any B p.1 x.1 W (hLa.kept fun k hk => by rw [hW]; exact hbl.block k (by omega)) (by rw [hW]; omega) hxl.1
            rw [hW] at h; exact h
          have CS : Hid (∀ W, Below wr.heap.size wr W → Calls Tryd.prog 20 #[p.2] W fun e w' => ∃ v', e = .returned v' ∧ RoomS w' W.heap.size p.2 v' x.2 ∧ Below W.heap.size W w') := fun W hW =>
            lsamples_any B p.2 x.2 W (hSa.kept fun k hk => (hW.block k (by omega)).trans (hbl.block k (by omega))) (by have := hW.size; omega) hxl.2
          obtain ⟨la, lc, hpl, _⟩ := hLa
          obtain ⟨sa, sc, hps, _⟩ := hSa
          obtain ⟨p1, p2⟩ := p
          simp only at hpl hps
          subst hpl hps
          simp only at m1 m2 CL CS
          have hs := stage_set rv [] bs.length (.slice none 0 0, .slice none 0 0) (by simp; omega)
          have HG : Hid (∀ W, Below wr.heap.size wr W → W.cell? ⟨w.heap.size, rv.length * 2, none⟩ = some (.slice none 0 0) ∧ W.cell? ⟨w.heap.size, rv.length * 2 + 1, none⟩ = some (.slice none 0 0) ∧ W.frozen? ⟨w.heap.size, rv.length * 2, none⟩ = false ∧ W.frozen? ⟨w.heap.size, rv.length * 2 + 1, none⟩ = false) := fun W hW => by
            have hB := HS.out.blk.below hW hgl
            have hg := serCells_get hs.1
            simp only [List.length_nil, Nat.add_zero] at hg hB
            exact ⟨hB.cell hg.1, hB.cell hg.2, hB.frozen _, hB.frozen _⟩
          have HX := hide hx
          have HP := hide hp
          have hbne : ¬ b = w.heap.size := by omega
          have hbne2 : ¬ w.heap.size = b := by omega
          have k0 : (0 : Int) ≤ (rv.length : Int) := by omega
          have k1 : (rv.length : Int) < (bs.length : Int) := by omega
          have k2 : (rv.length : Int) < (bs.length : Int) + 8 := by omega
          have k3 : ¬ (bs.length : Int) ≤ (rv.length : Int) := by omega
          clear c1 c2 h5 h6 hs hx hp hbl hlt h3 HV HLL
          go_wp2
          as_aux_lemma =>
            go_region_held3 (fun w' => w'.cell? ⟨b, o + rv.length * 2, none⟩ = some (.slice la x.1.length lc) ∧ w'.cell? ⟨b, o + rv.length * 2 + 1, none⟩ = some (.slice sa x.2.length sc)) (go_keep) (first | (go_at_call 19; refine (CL.out _ (by exact rfl)).mono ?_; rintro e w2 ⟨v1, rfl, hR1, hb2⟩; have hb2' := (Below.refl wr.heap.size wr).drew.trans hb2; have hs2 : wr.heap.size ≤ w2.heap.size := hb2'.size; have e1 := (hb2'.cell (p := ⟨b, o + rv.length * 2, none⟩) (by show b < wr.heap.size; omega)).trans m1; have e2 := (hb2'.cell (p := ⟨b, o + rv.length * 2 + 1, none⟩) (by show b < wr.heap.size; omega)).trans m2; obtain ⟨a1, n1, q1, rfl⟩ := room_shape hR1) | (go_at_call 20; refine (CS.out _ (by exact hb2')).mono ?_; rintro e w3 ⟨v2, rfl, hR2, hb3⟩; have hb3' := hb2'.trans (hb3.mono hs2); have f1 := (hb3'.cell (p := ⟨b, o + rv.length * 2, none⟩) (by show b < wr.heap.size; omega)).trans m1; have f2 := (hb3'.cell (p := ⟨b, o + rv.length * 2 + 1, none⟩) (by show b < wr.heap.size; omega)).trans m2; obtain ⟨a2, n2, q2, rfl⟩ := room_shape hR2; obtain ⟨g1, g2, g3, g4⟩ := HG.out _ hb3'))
            all_goals
              have HN : Hid (Stage w ((w3.setCell ⟨w.heap.size, rv.length * 2, none⟩ (.slice a1 n1 q1)).setCell ⟨w.heap.size, rv.length * 2 + 1, none⟩ (.slice a2 n2 q2)) w.heap.size vals bs (rv ++ [(.slice a1 n1 q1, .slice a2 n2 q2)]) []) := by
                refine HS.out.more hin (q := (.slice a1 n1 q1, .slice a2 n2 q2)) hb3' (fun p y hp hy => ?_) (fun k hk => ?_) (fun k hk => ?_) (fun k hk hk2 => ?_) rfl
                · have h1 := HP.out
                  rw [hp] at h1; cases h1
                  have h2 := HX.out
                  rw [hy] at h2; cases h2
                  exact ⟨Room.mono (Room.kept hR1 fun k hk => hb3.block k (Room.own hR1 hk).2) hsz, Room.mono hR2 (by omega)⟩
                · have := Room.own hR1 hk
                  have := hb3.size
                  omega
                · have := Room.own hR2 hk
                  omega
                · have h1 := Room.own hR1 hk
                  have h2 := Room.own hR2 hk2
                  omega
              clear hb2 hb2' hb3 hb3' hR1 hR2 g1 g2 g3 g4 e1 e2 f1 f2 HP HX HG HS CL CS m1 m2
              go_wp2
              go_roundw
              case rel => exact ⟨rv ++ [(Value.slice a1 n1 q1, Value.slice a2 n2 q2)], [], by simp, by simp; omega, by simp; omega, .inr rfl, HN.out⟩
              case measure => simp [intOf]; omega
        · have hge : rv.length = bs.length := by omega
          have hgl := HS.out.blk.lt
          have hs := stage_set rv bb bs.length (.slice none 0 0, .slice none 0 0) hlt
          have hg := serCells_get hs.1
          have g1 : ∀ o, (wr.alloc o).cell? ⟨w.heap.size, (rv.length + bb.length) * 2, none⟩ = some nilP.1 := fun o => (HS.out.blk.alloc o).cell hg.1
          have g3 : ∀ o, (wr.alloc o).frozen? ⟨w.heap.size, (rv.length + bb.length) * 2, none⟩ = false := fun o => (HS.out.blk.alloc o).frozen ((rv.length + bb.length) * 2)
          have HN := hide (HS.out.beyond hlt rfl)
          simp only [nilP] at g1
          have k2 : ((rv.length + bb.length : Nat) : Int) < (bs.length : Int) + 8 := by omega
          have k3 : (bs.length : Int) ≤ ((rv.length + bb.length : Nat) : Int) := by omega
          have hlt2 : rv.length + bb.length < bs.length + 8 := hlt
          generalize hm : rv.length + bb.length = m at *
          have HM := hide hm
          clear hs hg HS hm HV HLL
          go_wp2
          go_roundw
          case rel => exact ⟨rv, bb ++ [wr.heap.size], by rw [List.length_append, List.length_singleton, ← Nat.add_assoc, HM.out]; go_num, h1, by simp; have := HM.out; omega, .inl hge, HN.out⟩
          case measure => simp [intOf]; omega
      · have he : rv.length = bs.length := by
          rcases h3 with h3 | h3
          · exact h3
          · subst h3; simp at hlt; omega
        have h8 : bb.length = 8 := by omega
        have hfin : RoomB wr w.heap.size (.slice (some a) bs.length cap) (.slice (some ⟨w.heap.size, 0, none⟩) bs.length (bs.length + 8)) vals bs rv := by
          refine .inr ⟨rfl, w.heap.size, bb, Nat.le_refl _, rfl, he, h8, ?_, fun q hq => ?_, HS.out.room, HS.out.apart⟩
          · have h := HS.out.blk
            rw [he, h8, Nat.sub_self, List.replicate_zero, List.append_nil] at h
            exact h
          · obtain ⟨q1, q2, q3⟩ := HS.out.bey q hq
            exact ⟨q1, q3⟩
        have HF := hide hfin
        have HB := hide HS.out.below
        have hk : ((rv.length + bb.length : Nat) : Int) = (bs.length : Int) + 8 := by omega
        have hk2 : ¬ ((rv.length + bb.length : Nat) : Int) < (bs.length : Int) + 8 := by omega
        clear hfin HS HV HLL
        generalize ((rv.length + bb.length : Nat) : Int) = m at *
        clear hk
        go_wp2
        go_ret
        exact ⟨_, rfl, ⟨rv, HF.out⟩, HB.out⟩
end Go.Proofs.YtcidgfdiacehmaaDoor

/- choirkeep's same: of two lists of series that read alike it says so. -/
namespace Go.Proofs.YtcidgfdiacehmaaDoor
open Go.RowKit Go.Lib

theorem labGet {w : World} {B : Nat} {a : Option Addr} {n c : Nat} {l : List Lab} (h : LabelsAt w B (.slice a n c) l) {j : Nat} {x : Lab} (hx : l[j]? = some x) :
    ∃ b o, a = some ⟨b, o, none⟩ ∧ w.cell? ⟨b, o + j * 2, none⟩ = some (.string x.1) ∧ w.cell? ⟨b, o + j * 2 + 1, none⟩ = some (.string x.2) := by
  obtain ⟨a', c', hv, _, h2⟩ := h
  cases hv
  rcases h2 with h2 | ⟨b, o, ha, _, hc⟩
  · rw [h2] at hx; cases hx
  · exact ⟨b, o, ha, (hc j x hx).1, (hc j x hx).2⟩
theorem samGet {w : World} {B : Nat} {a : Option Addr} {n c : Nat} {l : List (Int × Nat)} (h : SamplesAt w B (.slice a n c) l) {j : Nat} {x : Int × Nat} (hx : l[j]? = some x) :
    ∃ b o, a = some ⟨b, o, none⟩ ∧ w.cell? ⟨b, o + j * 2, none⟩ = some (.int .i64 x.1) ∧ w.cell? ⟨b, o + j * 2 + 1, none⟩ = some (.int .u64 x.2) := by
  obtain ⟨a', c', hv, _, _, h2⟩ := h
  cases hv
  rcases h2 with h2 | ⟨b, o, ha, _, hc⟩
  · rw [h2] at hx; cases hx
  · exact ⟨b, o, ha, (hc j x hx).1, (hc j x hx).2⟩

theorem drewN_two (w : World) (a b : Nat) : (w.drewN a).drewN b = w.drewN (a + b) := by
  simp [World.drewN, Nat.add_assoc]

set_option maxRecDepth 100000 in
set_option maxHeartbeats 1000000 in
theorem same_any (v1 v2 : Value) (bs : List Ser) (w : World) (h1 : BatchAt w w.heap.size v1 bs) (h2 : BatchAt w w.heap.size v2 bs) (hsm : Small bs) :
    Calls Tryd.prog 16 #[v1, v2] w fun e w' => e = .returned (.bool true) ∧ Below w.heap.size w w' := by
  obtain ⟨a1, c1, rfl, _⟩ := id h1
  obtain ⟨a2, c2, rfl, _⟩ := id h2
  have H1 := hide h1
  have H2 := hide h2
  have HSm := hide hsm
  have hll := hsm.series
  clear h1 h2 hsm
  go_enter Tryd.func16, Tryd.ntmps16
  go_wp2
  go_loopw [5, 6, 7] (fun i _ _ wr => ∃ m q : Nat, m ≤ bs.length ∧ i = .int .i64 m ∧ wr = w.drewN q) (fun i _ _ _ => bs.length - (intOf i).toNat)
  case atStart => exact ⟨0, 0, Nat.zero_le _, rfl, rfl⟩
  case round =>
    obtain ⟨m, q, hm, rfl, rfl⟩ := hrel
    by_cases hlt : m < bs.length
    · obtain ⟨⟨ll, sl⟩, hx⟩ : ∃ x, bs[m]? = some x := ⟨_, List.getElem?_eq_getElem hlt⟩
      obtain ⟨b1, o1, la1, lc1, sa1, sc1, rfl, _, p1, p2, L1, S1⟩ := H1.out.get hx
      obtain ⟨b2, o2, la2, lc2, sa2, sc2, rfl, _, q1, q2, L2, S2⟩ := H2.out.get hx
      have hl1 := HSm.out.labels _ (List.mem_of_getElem? hx)
      have hs1 := HSm.out.samples _ (List.mem_of_getElem? hx)
      simp only at p1 p2 q1 q2 L1 L2 S1 S2 hl1 hs1
      have HL1 := hide L1
      have HL2 := hide L2
      have HS1 := hide S1
      have HS2 := hide S2
      clear L1 L2 S1 S2 hx
      go_wp2
      go_quiet (fail)
      go_wp2
      go_loopw [6] (fun i wr => ∃ j q : Nat, j ≤ ll.length ∧ i = .int .i64 j ∧ wr = w.drewN q) (fun i _ => ll.length - (intOf i).toNat)
      case atStart => exact ⟨0, _, Nat.zero_le _, rfl, by first | rfl | exact drewN_two _ _ _⟩
      case round =>
        obtain ⟨j, q, hj, rfl, rfl⟩ := hrel
        by_cases hjl : j < ll.length
        · obtain ⟨⟨ky, vy⟩, hy⟩ : ∃ x, ll[j]? = some x := ⟨_, List.getElem?_eq_getElem hjl⟩
          obtain ⟨e1, f1, rfl, u1, u2⟩ := labGet HL1.out hy
          obtain ⟨e2, f2, rfl, v1, v2⟩ := labGet HL2.out hy
          simp only at u1 u2 v1 v2
          clear hy
          go_wp2
          go_quiet (fail)
          go_wp2
          go_roundw
          case rel => exact ⟨j + 1, _, by omega, by go_num, by first | rfl | exact drewN_two _ _ _⟩
          case measure => simp [intOf]; omega
        · go_wp2
          go_loopw [7] (fun i wr => ∃ j q : Nat, j ≤ sl.length ∧ i = .int .i64 j ∧ wr = w.drewN q) (fun i _ => sl.length - (intOf i).toNat)
          case atStart => exact ⟨0, _, Nat.zero_le _, rfl, rfl⟩
          case round =>
            obtain ⟨j, q, hj, rfl, rfl⟩ := hrel
            by_cases hjl : j < sl.length
            · obtain ⟨⟨ty, by1⟩, hy⟩ : ∃ x, sl[j]? = some x := ⟨_, List.getElem?_eq_getElem hjl⟩
              obtain ⟨e1, f1, rfl, u1, u2⟩ := samGet HS1.out hy
              obtain ⟨e2, f2, rfl, v1, v2⟩ := samGet HS2.out hy
              simp only at u1 u2 v1 v2
              clear hy
              go_wp2
              go_quiet (fail)
              go_wp2
              go_roundw
              case rel => exact ⟨j + 1, _, by omega, by go_num, by first | rfl | exact drewN_two _ _ _⟩
              case measure => simp [intOf]; omega
            · go_wp2
              go_roundw
              case rel => exact ⟨m + 1, _, by omega, by go_num, rfl⟩
              case measure => simp [intOf]; omega
    · go_wp2
      go_ret
      exact ⟨rfl, below_drewN (Below.refl _ _) _⟩
end Go.Proofs.YtcidgfdiacehmaaDoor

/- choirlaw's wholeLabels, wholeSamples, whole: of what roomy made they say that it is whole. -/
namespace Go.Proofs.YtcidgfdiacehmaaDoor
open Go.RowKit Go.Lib

set_option maxRecDepth 100000 in
set_option maxHeartbeats 1000000 in
theorem wholeLabels_any (base B : Nat) (v r : Value) (l : List Lab) (w : World) (hR : RoomL w base v r l) (hL : LabelsAt w B v l) (hl : l.length ≤ 4400000000000) :
    Calls Tryd.prog 25 #[r, v] w fun e w' => e = .returned (.bool true) ∧ ∃ q, w' = w.drewN q := by
  obtain ⟨a, cap, rfl, _⟩ := id hL
  have hnil : ∀ (W : World) a n c, (binOp .eql 43 (.slice a n c) (.slice none 0 0)).run Tryd.prog W = .ok (.bool a.isNone) W := fun W a n c => Lib.run_eql_slice_nil W 43 42 a n c 0 0 Tryd.underlying43
  rcases hR with ⟨h1, rfl, h0⟩ | ⟨h1, g, hg, rfl, hB⟩
  · cases a with
    | some a => simp [isNil] at h1
    | none =>
      go_enter Tryd.func25, Tryd.ntmps25
      go_wp2
      go_ret
      exact ⟨rfl, 0, rfl⟩
  · cases a with
    | none => simp [isNil] at h1
    | some a =>
      have hlen := labP_length l
      have HL := hide hL
      have HB := hide hB
      clear hL hB h1
      rw [hlen]
      go_enter Tryd.func25, Tryd.ntmps25
      go_wp2
      go_loopw [7] (fun i wr => ∃ j q : Nat, j ≤ l.length + 8 ∧ i = .int .i64 j ∧ wr = w.drewN q) (fun i _ => l.length + 8 - (intOf i).toNat)
      case atStart => exact ⟨0, 0, Nat.zero_le _, rfl, rfl⟩
      case round =>
        obtain ⟨j, q, hj, rfl, rfl⟩ := hrel
        by_cases hlt : j < l.length + 8
        · have k0 : (j : Int) < (l.length : Int) + 8 := by omega
          by_cases hin : j < l.length
          · obtain ⟨⟨x1, x2⟩, hx⟩ : ∃ x, l[j]? = some x := ⟨_, List.getElem?_eq_getElem hin⟩
            obtain ⟨b, o, e, u1, u2⟩ := labGet HL.out hx
            cases e
            have hp : (labP l)[j]? = some (.string x1, .string x2) := by simp [labP, hx]
            have hg2 := serCells_get (roomP_front (labP l) labX labZ 8 hp)
            have t1 := HB.out.cell hg2.1
            have t2 := HB.out.cell hg2.2
            have k1 : (j : Int) < (l.length : Int) := by omega
            have k2 : decide (l.length ≤ j) = false := by simp; omega
            simp only at u1 u2
            clear hx hp hg2
            go_wp2
            go_quiet (fail)
            go_wp2
            go_roundw
            case rel => exact ⟨j + 1, _, by omega, by go_num, by first | rfl | exact drewN_two _ _ _⟩
            case measure => simp [intOf]; omega
          · obtain ⟨m, rfl⟩ : ∃ m, j = l.length + m := ⟨j - l.length, by omega⟩
            have hg2 := serCells_get (roomP_back (labP l) labX labZ (j := m) (by omega))
            rw [hlen] at hg2
            have t1 := HB.out.cell hg2.1
            simp only [labX, bey] at t1
            have k1 : decide (l.length + m < l.length) = false := by simp
            have k2 : decide (l.length ≤ l.length + m) = true := by simp
            have hs8 : l.length + m < l.length + 8 := hlt
            generalize l.length + m = j at *
            clear hg2
            go_wp2
            go_quiet (fail)
            go_wp2
            go_roundw
            case rel => exact ⟨j + 1, _, by omega, by go_num, by first | rfl | exact drewN_two _ _ _⟩
            case measure => simp [intOf]; omega
        · have k0 : ¬ (j : Int) < (l.length : Int) + 8 := by omega
          go_wp2
          go_ret
          exact ⟨rfl, _, rfl⟩
set_option maxRecDepth 100000 in
set_option maxHeartbeats 1000000 in
theorem wholeSamples_any (base B : Nat) (v r : Value) (l : List (Int × Nat)) (w : World) (hR : RoomS w base v r l) (hL : SamplesAt w B v l) (hl : l.length ≤ 8800000000000) :
    Calls Tryd.prog 26 #[r, v] w fun e w' => e = .returned (.bool true) ∧ ∃ q, w' = w.drewN q := by
  obtain ⟨a, cap, rfl, _⟩ := id hL
  have hnil : ∀ (W : World) a n c, (binOp .eql 44 (.slice a n c) (.slice none 0 0)).run Tryd.prog W = .ok (.bool a.isNone) W := fun W a n c => Lib.run_eql_slice_nil W 44 56 a n c 0 0 Tryd.underlying44
  rcases hR with ⟨h1, rfl, h0⟩ | ⟨h1, g, hg, rfl, hB⟩
  · cases a with
    | some a => simp [isNil] at h1
    | none =>
      go_enter Tryd.func26, Tryd.ntmps26
      go_wp2
      go_ret
      exact ⟨rfl, 0, rfl⟩
  · cases a with
    | none => simp [isNil] at h1
    | some a =>
      have hlen := samP_length l
      have HL := hide hL
      have HB := hide hB
      clear hL hB h1
      rw [hlen]
      go_enter Tryd.func26, Tryd.ntmps26
      go_wp2
      go_loopw [7] (fun i wr => ∃ j q : Nat, j ≤ l.length + 8 ∧ i = .int .i64 j ∧ wr = w.drewN q) (fun i _ => l.length + 8 - (intOf i).toNat)
      case atStart => exact ⟨0, 0, Nat.zero_le _, rfl, rfl⟩
      case round =>
        obtain ⟨j, q, hj, rfl, rfl⟩ := hrel
        by_cases hlt : j < l.length + 8
        · have k0 : (j : Int) < (l.length : Int) + 8 := by omega
          by_cases hin : j < l.length
          · obtain ⟨⟨x1, x2⟩, hx⟩ : ∃ x, l[j]? = some x := ⟨_, List.getElem?_eq_getElem hin⟩
            obtain ⟨b, o, e, u1, u2⟩ := samGet HL.out hx
            cases e
            have hp : (samP l)[j]? = some (.int .i64 x1, .int .u64 x2) := by simp [samP, hx]
            have hg2 := serCells_get (roomP_front (samP l) samX samZ 8 hp)
            have t1 := HB.out.cell hg2.1
            have t2 := HB.out.cell hg2.2
            have k1 : (j : Int) < (l.length : Int) := by omega
            have k2 : decide (l.length ≤ j) = false := by simp; omega
            simp only at u1 u2
            clear hx hp hg2
            go_wp2
            go_quiet (fail)
            go_wp2
            go_roundw
            case rel => exact ⟨j + 1, _, by omega, by go_num, by first | rfl | exact drewN_two _ _ _⟩
            case measure => simp [intOf]; omega
          · obtain ⟨m, rfl⟩ : ∃ m, j = l.length + m := ⟨j - l.length, by omega⟩
            have hg2 := serCells_get (roomP_back (samP l) samX samZ (j := m) (by omega))
            rw [hlen] at hg2
            have t1 := HB.out.cell hg2.2
            simp only [samX] at t1
            have k1 : decide (l.length + m < l.length) = false := by simp
            have k2 : decide (l.length ≤ l.length + m) = true := by simp
            have hs8 : l.length + m < l.length + 8 := hlt
            generalize l.length + m = j at *
            clear hg2
            go_wp2
            go_quiet (fail)
            go_wp2
            go_roundw
            case rel => exact ⟨j + 1, _, by omega, by go_num, by first | rfl | exact drewN_two _ _ _⟩
            case measure => simp [intOf]; omega
        · have k0 : ¬ (j : Int) < (l.length : Int) + 8 := by omega
          go_wp2
          go_ret
          exact ⟨rfl, _, rfl⟩
end Go.Proofs.YtcidgfdiacehmaaDoor

/- choirlaw's whole: of what roomy made it says that it is whole. -/
namespace Go.Proofs.YtcidgfdiacehmaaDoor
open Go.RowKit Go.Lib

theorem Roomed.drewN {w : World} {base : Nat} {p q : Value × Value} {x : Ser} (h : Roomed w base p q x) (m : Nat) : Roomed (w.drewN m) base p q x := h.kept fun _ _ => rfl
theorem bey_get {rv : List (Value × Value)} {bb : List Nat} {m q : Nat} (h : bb[m]? = some q) : (rv ++ bb.map beyV)[rv.length + m]? = some (beyV q) := by
  rw [List.getElem?_append_right (by omega), Nat.add_sub_cancel_left, List.getElem?_map, h]; rfl

set_option maxRecDepth 100000 in
set_option maxHeartbeats 1000000 in
theorem whole_any (base B : Nat) (v r : Value) (vals : List (Value × Value)) (bs : List Ser) (rv : List (Value × Value)) (w : World) (hR : RoomB w base v r vals bs rv) (hV : BatchV w B v vals bs) (hl : bs.length ≤ 3000000000000) (hll : ∀ s ∈ bs, s.1.length ≤ 4400000000000 ∧ s.2.length ≤ 8800000000000) :
    Calls Tryd.prog 10 #[r, v] w fun e w' => e = .returned (.bool true) ∧ ∃ q, w' = w.drewN q := by
  obtain ⟨hvl, a, cap, rfl, hcap, h2, h3⟩ := id hV
  have hnil : ∀ (W : World) a n c, (binOp .eql 22 (.slice a n c) (.slice none 0 0)).run Tryd.prog W = .ok (.bool a.isNone) W := fun W a n c => Lib.run_eql_slice_nil W 22 46 a n c 0 0 Tryd.underlying22
  have hnn : ∀ (W : World) a n c, (binOp .neq 44 (.slice a n c) (.slice none 0 0)).run Tryd.prog W = .ok (.bool (!a.isNone)) W := fun W a n c => run_neq_slice_nil_any W 44 56 a n c 0 0 Tryd.underlying44
  rcases hR with ⟨h1, rfl, h0, _⟩ | ⟨h1, g, bb, hg, rfl, hrl, hbb, hB, hbs, hro, _⟩
  · cases a with
    | some a => simp [isNil] at h1
    | none =>
      clear hV h2 h3
      go_enter Tryd.func10, Tryd.ntmps10
      go_wp2
      go_ret
      exact ⟨rfl, 0, rfl⟩
  · cases a with
    | none => simp [isNil] at h1
    | some a =>
      have HB := hide hB
      have HBs := hide hbs
      have HRo := hide hro
      have HLL := hide hll
      have H2 := hide h2
      have H3 := hide h3
      clear hV h2 h3 hB hbs hro h1 hll
      go_enter Tryd.func10, Tryd.ntmps10
      go_wp2
      go_loopw [7, 8, 9] (fun i _ _ wr => ∃ j q : Nat, j ≤ bs.length + 8 ∧ i = .int .i64 j ∧ Hid (wr = w.drewN q)) (fun i _ _ _ => bs.length + 8 - (intOf i).toNat)
      case atStart => exact ⟨0, 0, Nat.zero_le _, rfl, rfl⟩
      case round =>
        obtain ⟨j, q, hj, rfl, HW⟩ := hrel
        have HH : Hid (wr.heap = w.heap) := by rw [HW.out]; rfl
        have hwc : ∀ b o, wr.cell? ⟨b, o, none⟩ = w.cell? ⟨b, o, none⟩ := fun b o => by rw [HW.out]; rfl
        by_cases hlt : j < bs.length + 8
        · have k0 : (j : Int) < (bs.length : Int) + 8 := by omega
          by_cases hin : j < bs.length
          · obtain ⟨x, hx⟩ : ∃ x, bs[j]? = some x := ⟨_, List.getElem?_eq_getElem hin⟩
            obtain ⟨p, hp⟩ : ∃ p, vals[j]? = some p := ⟨_, List.getElem?_eq_getElem (by omega)⟩
            obtain ⟨u, hu⟩ : ∃ u, rv[j]? = some u := ⟨_, List.getElem?_eq_getElem (by omega)⟩
            have hro := HRo.out j p u x hp hu hx
            obtain ⟨hLa, hSa⟩ := H3.out j p x hp hx
            have hxl := HLL.out x (List.mem_of_getElem? hx)
            have CL : Hid (∀ W : World, W.heap = w.heap → Calls Tryd.prog 25 #[u.1, p.1] W fun e w' => e = .returned (.bool true) ∧ ∃ q', w' = W.drewN q') := fun W hW => wholeLabels_any base B p.1 u.1 x.1 W (hro.kept fun _ _ => by rw [hW]).labels (hLa.kept fun _ _ => by rw [hW]) hxl.1
            have CS : Hid (∀ W : World, W.heap = w.heap → Calls Tryd.prog 26 #[u.2, p.2] W fun e w' => e = .returned (.bool true) ∧ ∃ q', w' = W.drewN q') := fun W hW => wholeSamples_any base B p.2 u.2 x.2 W (hro.kept fun _ _ => by rw [hW]).samples (hSa.kept fun _ _ => by rw [hW]) hxl.2
            obtain ⟨la, lc, hpl, _⟩ := hLa
            obtain ⟨sa, sc, hps, _⟩ := hSa
            obtain ⟨a1, n1, q1, hu1⟩ := room_shape hro.labels
            obtain ⟨a2, n2, q2, hu2⟩ := room_shape hro.samples
            have hcc : ∃ b o, a = ⟨b, o, none⟩ ∧ w.cell? ⟨b, o + j * 2, none⟩ = some p.1 ∧ w.cell? ⟨b, o + j * 2 + 1, none⟩ = some p.2 := by
              rcases H2.out with h5 | ⟨b, o, ha, hb, hc⟩
              · rw [h5] at hin; simp at hin
              · exact ⟨b, o, Option.some.inj ha, hc _ p hp⟩
            obtain ⟨b, o, rfl, c1, c2⟩ := hcc
            have hg2 := serCells_get (l := rv ++ bb.map beyV) (i := j) (p := u) (by rw [List.getElem?_append_left (by omega)]; exact hu)
            have t1 := (hwc _ _).trans (HB.out.cell hg2.1)
            have t2 := (hwc _ _).trans (HB.out.cell hg2.2)
            have d1 := (hwc _ _).trans c1
            have d2 := (hwc _ _).trans c2
            obtain ⟨p1, p2⟩ := p
            obtain ⟨w1, w2⟩ := u
            simp only at hpl hps hu1 hu2
            subst hpl hps hu1 hu2
            simp only at t1 t2 d1 d2 CL CS
            have k1 : (j : Int) < (bs.length : Int) := by omega
            have k2 : decide (bs.length ≤ j) = false := by simp; omega
            clear hx hp hu hg2 hro c1 c2 hwc
            go_wp2
            go_quiet ((go_at_call 25; exact Calls.quiet_of (CL.out _ (by exact HH.out))))
            obtain ⟨W2, hW2⟩ : ∃ W2, W2 = wr.drewN nq := ⟨_, rfl⟩
            rw [← hW2]
            have s2 : W2.cell? ⟨g, j * 2 + 1, none⟩ = some (.slice a2 n2 q2) := by rw [hW2]; exact t2
            have f2 : W2.cell? ⟨b, o + j * 2 + 1, none⟩ = some (.slice sa x.2.length sc) := by rw [hW2]; exact d2
            have HH2 : Hid (W2.heap = w.heap) := by rw [hW2]; exact HH.out
            have HW2 := hide hW2
            clear hW2 t1 t2 d1 d2
            go_wp2
            go_quiet ((go_at_call 26; exact Calls.quiet_of (CS.out _ (by exact HH2.out))))
            go_wp2
            go_roundw
            case rel => exact ⟨j + 1, _, by omega, by go_num, by show _ = _; rw [HW2.out, HW.out, drewN_two, drewN_two]⟩
            case measure => simp [intOf]; omega
          · obtain ⟨m, rfl⟩ : ∃ m, j = bs.length + m := ⟨j - bs.length, by omega⟩
            obtain ⟨y, hy⟩ : ∃ y, bb[m]? = some y := ⟨_, List.getElem?_eq_getElem (by omega)⟩
            have hg2 := serCells_get (bey_get (rv := rv) hy)
            rw [hrl] at hg2
            have t1 := (hwc _ _).trans (HB.out.cell hg2.1)
            have t2 := (hwc _ _).trans (HB.out.cell hg2.2)
            have t3 := (hwc _ _).trans ((HBs.out y (List.mem_of_getElem? hy)).2.cell (i := 0) rfl)
            simp only [beyV, bey] at t1 t2 t3
            have k2 : decide (bs.length ≤ bs.length + m) = true := by simp
            have hs8 : bs.length + m < bs.length + 8 := hlt
            generalize bs.length + m = j at *
            clear hg2 hy hwc
            go_wp2
            go_roundw
            case rel => exact ⟨j + 1, _, by omega, by go_num, HW.out⟩
            case measure => simp [intOf]; omega
        · have k0 : ¬ (j : Int) < (bs.length : Int) + 8 := by omega
          clear hwc
          go_wp2
          go_ret
          exact ⟨rfl, _, HW.out⟩
end Go.Proofs.YtcidgfdiacehmaaDoor

/- choirlaw's turned: the same series with other bits. -/
namespace Go.Proofs.YtcidgfdiacehmaaDoor
open Go.RowKit Go.Lib

/-- Other bits. -/
def flipS (l : List (Int × Nat)) : List (Int × Nat) := l.map fun x => (x.1, x.2 ^^^ 5)
def flipB (bs : List Ser) : List Ser := bs.map fun s => (s.1, flipS s.2)
theorem flipS_length (l : List (Int × Nat)) : (flipS l).length = l.length := by simp [flipS]
theorem flipB_length (bs : List Ser) : (flipB bs).length = bs.length := by simp [flipB]
theorem flip_le {x : Nat} (h : x ≤ 18446744073709551615) : x ^^^ 5 ≤ 18446744073709551615 := by
  have : x ^^^ 5 < 2 ^ 64 := Nat.xor_lt_two_pow (by omega) (by omega)
  omega
theorem xor5 (x : Nat) (h : x ≤ 18446744073709551615) : Go.bits .xor .u64 (x : Int) 5 = ((x ^^^ 5 : Nat) : Int) := bits_xor_u64_is x 5 h (by omega)

/-- The samples of one series, with other bits: nil stays nil. -/
def Flip (w : World) (base g : Nat) (p q : Value × Value) (x : Ser) : Prop :=
  q.1 = p.1 ∧ ((isNil p.2 = true ∧ q.2 = .slice none 0 0 ∧ x.2 = []) ∨ (isNil p.2 = false ∧ ∃ h, base ≤ h ∧ h ≠ g ∧ q.2 = .slice (some ⟨h, 0, none⟩) x.2.length x.2.length ∧ Blk w h 56 (serCells (samP (flipS x.2)))))
/-- What turned makes. -/
def TurnAt (w : World) (base : Nat) (v c : Value) (vals cv : List (Value × Value)) (bs : List Ser) : Prop :=
  (isNil v = true ∧ c = .slice none 0 0 ∧ bs = [] ∧ cv = []) ∨ (isNil v = false ∧ ∃ g, base ≤ g ∧ c = .slice (some ⟨g, 0, none⟩) bs.length bs.length ∧ cv.length = bs.length ∧ Blk w g 46 (serCells cv) ∧
    ∀ (i : Nat) (p q : Value × Value) (x : Ser), vals[i]? = some p → cv[i]? = some q → bs[i]? = some x → Flip w base g p q x)
theorem Flip.kept {w w' : World} {base g : Nat} {p q : Value × Value} {x : Ser} (h : Flip w base g p q x) (hk : ∀ k, q.2.ownBlock = some k → base ≤ k → w'.heap[k]? = w.heap[k]?) : Flip w' base g p q x := by
  refine ⟨h.1, ?_⟩
  rcases h.2 with h2 | ⟨h1, k, hb, hg, hq, hB⟩
  · exact .inl h2
  · exact .inr ⟨h1, k, hb, hg, hq, hB.kept (hk k (by rw [hq]; rfl) hb)⟩
theorem TurnAt.kept {w w' : World} {base : Nat} {v c : Value} {vals cv : List (Value × Value)} {bs : List Ser} (h : TurnAt w base v c vals cv bs) (hk : ∀ k, base ≤ k → k < w.heap.size → w'.heap[k]? = w.heap[k]?) : TurnAt w' base v c vals cv bs := by
  rcases h with h | ⟨h1, g, hg, hc, hl, hB, hf⟩
  · exact .inl h
  · refine .inr ⟨h1, g, hg, hc, hl, hB.kept (hk g hg hB.lt), fun i p q x hp hq hx => ?_⟩
    refine (hf i p q x hp hq hx).kept fun k e hb => hk k hb ?_
    rcases (hf i p q x hp hq hx).2 with ⟨_, e2, _⟩ | ⟨_, m, _, _, e2, hB2⟩
    · rw [e2] at e; cases e
    · rw [e2] at e; cases e; exact hB2.lt
theorem flipB_get {bs : List Ser} {i : Nat} {y : Ser} (h : (flipB bs)[i]? = some y) : ∃ x, bs[i]? = some x ∧ y = (x.1, flipS x.2) := by
  unfold flipB at h
  rw [List.getElem?_map] at h
  cases hx : bs[i]? with
  | none => rw [hx] at h; cases h
  | some x => rw [hx] at h; exact ⟨x, rfl, (Option.some.inj h).symm⟩
theorem samP_get {l : List (Int × Nat)} {i : Nat} {x : Int × Nat} (h : l[i]? = some x) : (samP l)[i]? = some (.int .i64 x.1, .int .u64 x.2) := by simp [samP, h]
theorem TurnAt.batchV {w : World} {base B : Nat} {v c : Value} {vals cv : List (Value × Value)} {bs : List Ser} (h : TurnAt w base v c vals cv bs) (hV : BatchV w B v vals bs) (hB : B ≤ w.heap.size) : BatchV w w.heap.size c cv (flipB bs) := by
  obtain ⟨hvl, a, cap, hv, hcap, h2, h3⟩ := hV
  rcases h with ⟨_, rfl, rfl, rfl⟩ | ⟨_, g, hg, rfl, hl, hBk, hf⟩
  · exact ⟨rfl, none, 0, rfl, Nat.le_refl _, .inl rfl, fun i p x hp => by simp at hp⟩
  · refine ⟨by rw [flipB_length]; exact hl, _, bs.length, by rw [flipB_length], by rw [flipB_length]; exact Nat.le_refl _, .inr ⟨g, 0, rfl, hBk.lt, fun i p hp => ?_⟩, fun i q y hq hy => ?_⟩
    · have := serCells_get hp
      rw [Nat.zero_add]
      exact ⟨hBk.cell this.1, hBk.cell this.2⟩
    · obtain ⟨x, hx, rfl⟩ := flipB_get hy
      obtain ⟨p, hp⟩ : ∃ p, vals[i]? = some p := ⟨_, List.getElem?_eq_getElem (by rw [hvl]; exact (List.getElem?_eq_some_iff.1 hx).1)⟩
      obtain ⟨e1, e2⟩ := hf i p q x hp hq hx
      obtain ⟨hLa, hSa⟩ := h3 i p x hp hx
      obtain ⟨sa, sc, _, _, hrg, _⟩ := hSa
      refine ⟨?_, ?_⟩
      · rw [e1]
        obtain ⟨la, lc, hv1, hc1, h4⟩ := hLa
        refine ⟨la, lc, hv1, hc1, ?_⟩
        rcases h4 with h4 | ⟨b, o, ha, hb, hc⟩
        · exact .inl h4
        · exact .inr ⟨b, o, ha, by omega, hc⟩
      · have hrg2 : ∀ y ∈ flipS x.2, -9223372036854775808 ≤ y.1 ∧ y.1 ≤ 9223372036854775807 ∧ y.2 ≤ 18446744073709551615 := fun y hy => by
          obtain ⟨z, hz, rfl⟩ := List.mem_map.1 hy
          have := hrg z hz
          exact ⟨this.1, this.2.1, flip_le this.2.2⟩
        rcases e2 with ⟨_, e2, e3⟩ | ⟨_, k, _, _, e2, hB2⟩
        · rw [e2, e3]
          exact ⟨none, 0, rfl, Nat.le_refl _, (fun y hy => by simp [flipS] at hy), .inl rfl⟩
        · rw [e2]
          refine ⟨some ⟨k, 0, none⟩, x.2.length, by rw [flipS_length], by rw [flipS_length]; exact Nat.le_refl _, hrg2, .inr ⟨k, 0, rfl, hB2.lt, fun j z hz => ?_⟩⟩
          have := serCells_get (samP_get hz)
          rw [Nat.zero_add]
          exact ⟨hB2.cell this.1, hB2.cell this.2⟩
theorem TurnAt.nil {w : World} {base : Nat} {v c : Value} {vals cv : List (Value × Value)} {bs : List Ser} (h : TurnAt w base v c vals cv bs) : isNil c = isNil v := by
  rcases h with ⟨h1, rfl, _⟩ | ⟨h1, g, _, rfl, _⟩ <;> rw [h1] <;> rfl
theorem Flip.nils {w : World} {base g : Nat} {p q : Value × Value} {x : Ser} (h : Flip w base g p q x) : isNil q.1 = isNil p.1 ∧ isNil q.2 = isNil p.2 := by
  refine ⟨by rw [h.1], ?_⟩
  rcases h.2 with ⟨h1, h2, _⟩ | ⟨h1, k, _, _, h2, _⟩ <;> rw [h1, h2] <;> rfl
end Go.Proofs.YtcidgfdiacehmaaDoor

/- choirlaw's turned: the walk. -/
namespace Go.Proofs.YtcidgfdiacehmaaDoor
open Go.RowKit Go.Lib

/-- How far turned has come. -/
structure TStage (w W : World) (g : Nat) (vals : List (Value × Value)) (bs : List Ser) (cv : List (Value × Value)) : Prop where
  blk : Blk W g 46 (serCells (cv ++ List.replicate (bs.length - cv.length) nilP))
  below : Below w.heap.size w W
  base : w.heap.size ≤ g
  flip : ∀ (i : Nat) (p q : Value × Value) (x : Ser), vals[i]? = some p → cv[i]? = some q → bs[i]? = some x → Flip W w.heap.size g p q x
theorem tstage_set (cv : List (Value × Value)) (n : Nat) (p : Value × Value) (h : cv.length < n) :
    (cv ++ List.replicate (n - cv.length) nilP)[cv.length]? = some nilP ∧ (cv ++ List.replicate (n - cv.length) nilP).set cv.length p = (cv ++ [p]) ++ List.replicate (n - (cv ++ [p]).length) nilP := by
  have e : n - cv.length = (n - (cv.length + 1)) + 1 := by omega
  rw [e, List.replicate_succ]
  constructor
  · rw [List.getElem?_append_right (Nat.le_refl _)]; simp
  · rw [List.set_append_right _ _ (Nat.le_refl _)]; simp

/-- One series more, without samples. -/
theorem TStage.bare {w W : World} {g : Nat} {vals : List (Value × Value)} {bs : List Ser} {cv : List (Value × Value)} (h : TStage w W g vals bs cv) (hlt : cv.length < bs.length) {p : Value × Value} {x : Ser} (hp : vals[cv.length]? = some p) (hx : bs[cv.length]? = some x) (hn : isNil p.2 = true) (h0 : x.2 = []) :
    TStage w (W.setCell ⟨g, cv.length * 2, none⟩ p.1) g vals bs (cv ++ [(p.1, .slice none 0 0)]) := by
  have hs := tstage_set cv bs.length (p.1, .slice none 0 0) hlt
  have e1 := (serCells_set h.blk cv.length hs.1 p.1).1
  rw [show ((p.1, nilP.2) : Value × Value) = (p.1, .slice none 0 0) from rfl, hs.2] at e1
  refine ⟨e1, h.below.setCell h.base _, h.base, fun i q r y hq hr hy => ?_⟩
  rcases getElem?_snoc hr with ⟨hi, hr⟩ | ⟨rfl, rfl⟩
  · refine (h.flip i q r y hq hr hy).kept fun k e hb => Below.heap_setCell _ _ _ k ?_
    rcases (h.flip i q r y hq hr hy).2 with ⟨_, e2, _⟩ | ⟨_, m, _, hm, e2, _⟩
    · rw [e2] at e; cases e
    · rw [e2] at e; cases e; exact hm
  · rw [hp] at hq; cases hq
    rw [hx] at hy; cases hy
    exact ⟨rfl, .inl ⟨hn, rfl, h0⟩⟩
/-- The samples of one series as they are filled. -/
structure Fill (w W1 W : World) (h : Nat) (l : List (Int × Nat)) (j : Nat) : Prop where
  blk : Blk W h 56 (serCells (samP (flipS (l.take j)) ++ List.replicate (l.length - j) samZ))
  rest : ∀ k, k ≠ h → W.heap[k]? = W1.heap[k]?
  below : Below w.heap.size w W
theorem Fill.drew {w W1 W : World} {h : Nat} {l : List (Int × Nat)} {j : Nat} (hf : Fill w W1 W h l j) : Fill w W1 W.drew h l j := ⟨hf.blk, hf.rest, hf.below.drew⟩
theorem Fill.step {w W1 W : World} {h : Nat} {l : List (Int × Nat)} {j : Nat} (hf : Fill w W1 W h l j) (hb : w.heap.size ≤ h) {x : Int × Nat} (hx : l[j]? = some x) :
    Fill w W1 ((W.setCell ⟨h, j * 2, none⟩ (.int .i64 x.1)).setCell ⟨h, j * 2 + 1, none⟩ (.int .u64 ((x.2 ^^^ 5 : Nat) : Int))) h l (j + 1) := by
  have hj := (List.getElem?_eq_some_iff.1 hx).1
  have hlen : (samP (flipS (l.take j))).length = j := by rw [samP_length, flipS_length, List.length_take]; omega
  have e : l.length - j = (l.length - (j + 1)) + 1 := by omega
  have h1 : (samP (flipS (l.take j)) ++ List.replicate (l.length - j) samZ)[j]? = some samZ := by
    rw [List.getElem?_append_right (by omega), hlen, Nat.sub_self, e, List.replicate_succ]; rfl
  have b1 := (serCells_set hf.blk j h1 (.int .i64 x.1)).1
  have h2 : ((samP (flipS (l.take j)) ++ List.replicate (l.length - j) samZ).set j (.int .i64 x.1, samZ.2))[j]? = some (.int .i64 x.1, samZ.2) := by
    rw [List.getElem?_set_self (List.getElem?_eq_some_iff.1 h1).1]
  have b2 := (serCells_set b1 j h2 (.int .u64 ((x.2 ^^^ 5 : Nat) : Int))).2
  rw [List.set_set, List.set_append_right _ _ (by omega), hlen, Nat.sub_self, e, List.replicate_succ, List.set_cons_zero] at b2
  refine ⟨?_, fun k hk => ?_, (hf.below.setCell hb _).setCell hb _⟩
  · have e2 : samP (flipS (l.take (j + 1))) = samP (flipS (l.take j)) ++ [(.int .i64 x.1, .int .u64 ((x.2 ^^^ 5 : Nat) : Int))] := by
      rw [take_more l j x hx]; simp [flipS, samP]
    rw [e2, List.append_assoc]; exact b2
  · rw [Below.heap_setCell _ _ _ k hk, Below.heap_setCell _ _ _ k hk]; exact hf.rest k hk
/-- One series more, its samples filled. -/
theorem TStage.full {w W W1 W2 : World} {g : Nat} {vals : List (Value × Value)} {bs : List Ser} {cv : List (Value × Value)} (h : TStage w W g vals bs cv) (hlt : cv.length < bs.length) {p : Value × Value} {x : Ser} (hp : vals[cv.length]? = some p) (hx : bs[cv.length]? = some x) (hn : isNil p.2 = false)
    (h1 : W1 = ((W.setCell ⟨g, cv.length * 2, none⟩ p.1).setCell ⟨g, cv.length * 2 + 1, none⟩ (.slice (some ⟨W.heap.size, 0, none⟩) x.2.length x.2.length)).alloc (.cells (serCells (List.replicate x.2.length samZ)).toArray 56))
    (hF : Fill w W1 W2 W.heap.size x.2 x.2.length) : TStage w W2 g vals bs (cv ++ [(p.1, .slice (some ⟨W.heap.size, 0, none⟩) x.2.length x.2.length)]) := by
  have hgl := h.blk.lt
  have hs := tstage_set cv bs.length (p.1, .slice (some ⟨W.heap.size, 0, none⟩) x.2.length x.2.length) hlt
  have e1 := (serCells_set h.blk cv.length hs.1 p.1).1
  have hs1 : ((cv ++ List.replicate (bs.length - cv.length) nilP).set cv.length (p.1, nilP.2))[cv.length]? = some (p.1, nilP.2) := by
    rw [List.getElem?_set_self (List.getElem?_eq_some_iff.1 hs.1).1]
  have e2 := (serCells_set e1 cv.length hs1 (.slice (some ⟨W.heap.size, 0, none⟩) x.2.length x.2.length)).2
  rw [List.set_set, hs.2] at e2
  have hk : ∀ k, k ≠ g → k < W.heap.size → W2.heap[k]? = W.heap[k]? := fun k hk hl => by
    rw [hF.rest k (by omega), h1]
    exact (heap_alloc_old _ _ (by simpa using hl)).trans (by rw [Below.heap_setCell _ _ _ k hk, Below.heap_setCell _ _ _ k hk])
  refine ⟨?_, hF.below, h.base, fun i q r y hq hr hy => ?_⟩
  · refine (e2.alloc (.cells (serCells (List.replicate x.2.length samZ)).toArray 56)).kept ?_
    rw [hF.rest g (by omega), h1]
  · rcases getElem?_snoc hr with ⟨hi, hr⟩ | ⟨rfl, rfl⟩
    · refine (h.flip i q r y hq hr hy).kept fun k e hb => ?_
      rcases (h.flip i q r y hq hr hy).2 with ⟨_, e2, _⟩ | ⟨_, m, _, hm, e2, hB2⟩
      · rw [e2] at e; cases e
      · rw [e2] at e; cases e; exact hk _ hm hB2.lt
    · rw [hp] at hq; cases hq
      rw [hx] at hy; cases hy
      refine ⟨rfl, .inr ⟨hn, W.heap.size, h.below.size, by omega, rfl, ?_⟩⟩
      have := hF.blk
      rw [List.take_length, Nat.sub_self, List.replicate_zero, List.append_nil] at this
      exact this

set_option maxRecDepth 100000 in
set_option maxHeartbeats 1000000 in
theorem lturned_any (B : Nat) (v : Value) (vals : List (Value × Value)) (bs : List Ser) (w : World) (hV : BatchV w B v vals bs) (hB : B ≤ w.heap.size) (hl : bs.length ≤ 3000000000000) (hll : ∀ s ∈ bs, s.2.length ≤ 8800000000000) :
    Calls Tryd.prog 11 #[v] w fun e w' => ∃ c, e = .returned c ∧ (∃ cv, TurnAt w' w.heap.size v c vals cv bs) ∧ Below w.heap.size w w' := by
  obtain ⟨i0, hi, hz0, hz1, hz2⟩ := info_parts Tryd.infoSer
  obtain ⟨j0, hj, hy0, hy1, hy2⟩ := info_parts Tryd.infoSam
  obtain ⟨hvl, a, cap, rfl, hcap, h2, h3⟩ := id hV
  have hnil : ∀ (W : World) a n c, (binOp .eql 22 (.slice a n c) (.slice none 0 0)).run Tryd.prog W = .ok (.bool a.isNone) W := fun W a n c => Lib.run_eql_slice_nil W 22 46 a n c 0 0 Tryd.underlying22
  have hnn : ∀ (W : World) a n c, (binOp .neq 44 (.slice a n c) (.slice none 0 0)).run Tryd.prog W = .ok (.bool (!a.isNone)) W := fun W a n c => run_neq_slice_nil_any W 44 56 a n c 0 0 Tryd.underlying44
  cases a with
  | none =>
    have hl0 : bs = [] := by
      rcases h2 with h | ⟨b, o, h, _⟩
      · exact h
      · cases h
    subst hl0
    clear hV h2 h3
    go_enter Tryd.func11, Tryd.ntmps11
    go_wp2
    go_ret
    exact ⟨_, rfl, ⟨[], .inl ⟨rfl, rfl, rfl, rfl⟩⟩, Below.refl _ _⟩
  | some a =>
    obtain ⟨w0, hmk, HS0⟩ : ∃ w0, (Instr.makeSlice 22 (.int .i64 (bs.length : Int)) (.int .i64 (bs.length : Int))).run Tryd.prog w = .ok (.slice (some ⟨w.heap.size, 0, none⟩) bs.length bs.length) w0 ∧ Hid (TStage w w0 w.heap.size vals bs []) := by
      have hm := run_make (P := Tryd.prog) w 22 46 i0 (.agg #[nilP.1, nilP.2]) Tryd.underlying22 hi hz0 .i64 .i64 (bs.length : Int) (bs.length : Int) (by omega) (by omega) (by rw [hz2]; omega) (by omega)
      have e9 : (Value.agg #[nilP.1, nilP.2]).cells = #[nilP.1, nilP.2] := rfl
      rw [Int.toNat_natCast, hz1, e9, ← serCells_rep_arr nilP bs.length] at hm
      refine ⟨_, hm, ⟨?_, (Below.refl _ _).alloc (Nat.le_refl _) _, Nat.le_refl _, (fun i p q x _ h => by simp at h)⟩⟩
      have := Blk.new w 46 (serCells (List.replicate bs.length nilP))
      simpa using this
    have HV := hide hV
    have HLL := hide hll
    clear hV h2 h3 hi hz0 hz1 hz2 hll
    go_enter Tryd.func11, Tryd.ntmps11
    go_wp2
    clear hmk
    go_loopw [4, 5] (fun i _ wr => ∃ (cv : List (Value × Value)), i = .int .i64 ((cv.length : Nat) : Int) ∧ cv.length ≤ bs.length ∧ Hid (TStage w wr w.heap.size vals bs cv)) (fun i _ _ => bs.length - (intOf i).toNat)
    case atStart => exact ⟨[], rfl, by simp, HS0.out⟩
    case round =>
      generalize wr = W0 at *
      obtain ⟨cv, rfl, h1, HS⟩ := hrel
      clear HS0
      by_cases hin : cv.length < bs.length
      · obtain ⟨x, hx⟩ : ∃ x, bs[cv.length]? = some x := ⟨_, List.getElem?_eq_getElem hin⟩
        obtain ⟨p, hp⟩ : ∃ p, vals[cv.length]? = some p := ⟨_, List.getElem?_eq_getElem (by omega)⟩
        have hbl := HS.out.below
        have hsz := hbl.size
        have hgl := HS.out.blk.lt
        obtain ⟨_, _, _, hv4, _, h5, h6⟩ := HV.out
        cases hv4
        obtain ⟨hLa, hSa⟩ := h6 _ p x hp hx
        have hcc : ∃ b o, a = ⟨b, o, none⟩ ∧ b < B ∧ w.cell? ⟨b, o + cv.length * 2, none⟩ = some p.1 ∧ w.cell? ⟨b, o + cv.length * 2 + 1, none⟩ = some p.2 := by
          rcases h5 with h5 | ⟨b, o, ha, hb, hc⟩
          · rw [h5] at hin; simp at hin
          · exact ⟨b, o, Option.some.inj ha, hb, hc _ p hp⟩
        obtain ⟨b, o, rfl, hbB, c1, c2⟩ := hcc
        have hbw : b < w.heap.size := by omega
        have m1 := (hbl.cell (p := ⟨b, o + cv.length * 2, none⟩) hbw).trans c1
        have m2 := (hbl.cell (p := ⟨b, o + cv.length * 2 + 1, none⟩) hbw).trans c2
        have hxl := HLL.out x (List.mem_of_getElem? hx)
        obtain ⟨la, lc, hpl, _⟩ := hLa
        have HSa := hide hSa
        obtain ⟨sa, sc, hps, _⟩ := hSa
        obtain ⟨p1, p2⟩ := p
        simp only at hpl hps
        subst hpl hps
        simp only at m1 m2
        have hs := tstage_set cv bs.length (.slice none 0 0, .slice none 0 0) hin
        have hg := serCells_get hs.1
        have g1 := HS.out.blk.cell hg.1
        have g2 := HS.out.blk.cell hg.2
        have f1 := HS.out.blk.frozen (cv.length * 2)
        have f2 := HS.out.blk.frozen (cv.length * 2 + 1)
        simp only [nilP] at g1 g2
        have HX := hide hx
        have HP := hide hp
        have k0 : (0 : Int) ≤ (cv.length : Int) := by omega
        have k1 : (cv.length : Int) < (bs.length : Int) := by omega
        have hbne : ¬ b = w.heap.size := by omega
        have hbne2 : ¬ w.heap.size = b := by omega
        clear c1 c2 h5 h6 hs hg hx hp hbl HV HLL
        cases sa with
        | none =>
          have h0 : x.2 = [] := by
            obtain ⟨_, _, hv5, _, _, h5⟩ := HSa.out
            cases hv5
            rcases h5 with h5 | ⟨b, o, h5, _⟩
            · exact h5
            · cases h5
          have HN := hide (HS.out.bare hin HP.out HX.out rfl h0)
          have hl0 : x.2.length = 0 := by rw [h0]; rfl
          clear HSa h0
          rw [hl0] at m2
          simp only at HN
          go_wp2
          go_loopw [5] (fun i wr => i = .int .i64 0 ∧ wr = W0.setCell ⟨w.heap.size, cv.length * 2, none⟩ (.slice la x.1.length lc)) (fun _ _ => 0)
          case atStart => exact ⟨rfl, rfl⟩
          case round =>
            obtain ⟨rfl, rfl⟩ := hrel
            go_wp2
            go_roundw
            case rel => exact ⟨cv ++ [(Value.slice la x.1.length lc, Value.slice none 0 0)], by simp, by simp; omega, HN.out⟩
            case measure => simp [intOf]; omega
        | some sa =>
          have hmk : ∀ W : World, (Instr.makeSlice 44 (.int .i64 (x.2.length : Int)) (.int .i64 (x.2.length : Int))).run Tryd.prog W = .ok (.slice (some ⟨W.heap.size, 0, none⟩) x.2.length x.2.length) (W.alloc (.cells (serCells (List.replicate x.2.length samZ)).toArray 56)) := fun W => by
            have hm := run_make (P := Tryd.prog) W 44 56 j0 (.agg #[samZ.1, samZ.2]) Tryd.underlying44 hj hy0 .i64 .i64 (x.2.length : Int) (x.2.length : Int) (by omega) (by omega) (by rw [hy2]; omega) (by omega)
            have e9 : (Value.agg #[samZ.1, samZ.2]).cells = #[samZ.1, samZ.2] := rfl
            rw [Int.toNat_natCast, hy1, e9, ← serCells_rep_arr samZ x.2.length] at hm
            exact hm
          obtain ⟨W1, hW1⟩ : ∃ W1, W1 = ((W0.setCell ⟨w.heap.size, cv.length * 2, none⟩ (.slice la x.1.length lc)).setCell ⟨w.heap.size, cv.length * 2 + 1, none⟩ (.slice (some ⟨W0.heap.size, 0, none⟩) x.2.length x.2.length)).alloc (.cells (serCells (List.replicate x.2.length samZ)).toArray 56) := ⟨_, rfl⟩
          have hF0 : Fill w W1 W1 W0.heap.size x.2 0 := by
            refine ⟨?_, fun _ _ => rfl, ?_⟩
            · have := Blk.new ((W0.setCell ⟨w.heap.size, cv.length * 2, none⟩ (.slice la x.1.length lc)).setCell ⟨w.heap.size, cv.length * 2 + 1, none⟩ (.slice (some ⟨W0.heap.size, 0, none⟩) x.2.length x.2.length)) 56 (serCells (List.replicate x.2.length samZ))
              rw [hW1]
              simpa [flipS, samP] using this
            · rw [hW1]
              exact ((HS.out.below.setCell (Nat.le_refl _) _).setCell (Nat.le_refl _) _).alloc (by simpa using hsz) _
          have HF0 := hide hF0
          have HW1 := hide hW1
          have hb1 : W1.cell? ⟨b, o + cv.length * 2 + 1, none⟩ = some (.slice (some sa) x.2.length sc) := by
            rw [← m2]
            exact World.cell?_of_block (a := ⟨b, o + cv.length * 2 + 1, none⟩) ((hF0.below.block b hbw).trans (HS.out.below.block b hbw).symm)
          have hg2 : W1.cell? ⟨w.heap.size, cv.length * 2 + 1, none⟩ = some (.slice (some ⟨W0.heap.size, 0, none⟩) x.2.length x.2.length) := by
            have hs := tstage_set cv bs.length (.slice none 0 0, .slice none 0 0) hin
            have e1 := (serCells_set HS.out.blk cv.length hs.1 (.slice la x.1.length lc)).1
            have hs1 : ((cv ++ List.replicate (bs.length - cv.length) nilP).set cv.length (.slice la x.1.length lc, nilP.2))[cv.length]? = some (.slice la x.1.length lc, nilP.2) := by
              rw [List.getElem?_set_self (List.getElem?_eq_some_iff.1 hs.1).1]
            have e2 := (serCells_set e1 cv.length hs1 (.slice (some ⟨W0.heap.size, 0, none⟩) x.2.length x.2.length)).2.alloc (.cells (serCells (List.replicate x.2.length samZ)).toArray 56)
            rw [hW1]
            refine e2.cell (serCells_get (i := cv.length) (p := (.slice la x.1.length lc, .slice (some ⟨W0.heap.size, 0, none⟩) x.2.length x.2.length)) ?_).2
            rw [List.getElem?_set_self (by simpa using (List.getElem?_eq_some_iff.1 hs.1).1)]
          go_wp2
          rw [← HW1.out]
          clear hW1 hF0 hmk g1 g2 f1 f2 m1 m2
          go_loopw [5] (fun i wr => ∃ j : Nat, j ≤ x.2.length ∧ i = .int .i64 j ∧ Hid (Fill w W1 wr W0.heap.size x.2 j)) (fun i _ => x.2.length - (intOf i).toNat)
          case atStart => exact ⟨0, Nat.zero_le _, rfl, HF0.out⟩
          case round =>
            obtain ⟨j, hj, rfl, HF⟩ := hrel
            clear HF0
            have m2 := (World.cell?_of_block (a := ⟨b, o + cv.length * 2 + 1, none⟩) (HF.out.rest b (by omega))).trans hb1
            by_cases hlt : j < x.2.length
            · obtain ⟨⟨x1, x2⟩, hy⟩ : ∃ y, x.2[j]? = some y := ⟨_, List.getElem?_eq_getElem hlt⟩
              have g2 := (World.cell?_of_block (a := ⟨w.heap.size, cv.length * 2 + 1, none⟩) (HF.out.rest w.heap.size (by omega))).trans hg2
              obtain ⟨sb, so, he, u1, u2⟩ := samGet HSa.out hy
              cases he
              have hsb : sb < B := by
                obtain ⟨_, _, hv5, _, _, h5⟩ := HSa.out
                cases hv5
                rcases h5 with h5 | ⟨b', o', h5, h6, _⟩
                · rw [h5] at hy; cases hy
                · cases h5; exact h6
              have hx2 : x2 ≤ 18446744073709551615 := by
                obtain ⟨_, _, _, _, h5, _⟩ := HSa.out
                exact (h5 (x1, x2) (List.mem_of_getElem? hy)).2.2
              have v1 := (HF.out.below.cell (p := ⟨sb, so + j * 2, none⟩) (by show sb < w.heap.size; omega)).trans u1
              have v2 := (HF.out.below.cell (p := ⟨sb, so + j * 2 + 1, none⟩) (by show sb < w.heap.size; omega)).trans u2
              have hxr := xor5 x2 hx2
              have HN := hide (HF.out.step (by omega) hy)
              simp only at HN v1 v2
              have hcell : (samP (flipS (x.2.take j)) ++ List.replicate (x.2.length - j) samZ)[j]? = some samZ := by
                have hlen : (samP (flipS (x.2.take j))).length = j := by rw [samP_length, flipS_length, List.length_take]; omega
                rw [List.getElem?_append_right (by omega), hlen, Nat.sub_self, List.getElem?_replicate, if_pos (by omega)]
              have c1 := HF.out.blk.cell (serCells_get hcell).1
              have c2 := HF.out.blk.cell (serCells_get hcell).2
              have f1 := HF.out.blk.frozen (j * 2)
              have f2 := HF.out.blk.frozen (j * 2 + 1)
              simp only [samZ] at c1 c2
              have n1 : ¬ W0.heap.size = b := by omega
              have n2 : ¬ W0.heap.size = w.heap.size := by omega
              have n3 : ¬ W0.heap.size = sb := by omega
              have k2 : (j : Int) < (x.2.length : Int) := by omega
              have k3 : (0 : Int) ≤ (j : Int) := by omega
              clear hy HF u1 u2 hcell HW1 hb1 hg2
              go_wp2
              as_aux_lemma =>
                go_region_held3 (fun w' => w'.cell? ⟨b, o + cv.length * 2 + 1, none⟩ = some (.slice (some ⟨sb, so, none⟩) x.2.length sc) ∧ w'.cell? ⟨w.heap.size, cv.length * 2 + 1, none⟩ = some (.slice (some ⟨W0.heap.size, 0, none⟩) x.2.length x.2.length) ∧ w'.cell? ⟨sb, so + j * 2, none⟩ = some (.int .i64 x1) ∧ w'.cell? ⟨sb, so + j * 2 + 1, none⟩ = some (.int .u64 x2)) (go_keep) (fail)
                all_goals
                  go_wp2
                  go_roundw
                  case rel => exact ⟨j + 1, by omega, by go_num, HN.out.drew⟩
                  case measure => simp [intOf]; omega
            · have hje : j = x.2.length := by omega
              subst hje
              have HN := hide (HS.out.full hin HP.out HX.out rfl HW1.out HF.out)
              simp only at HN
              clear HF
              go_wp2
              go_roundw
              case rel => exact ⟨cv ++ [(Value.slice la x.1.length lc, Value.slice (some ⟨W0.heap.size, 0, none⟩) x.2.length x.2.length)], by simp, by simp; omega, HN.out⟩
              case measure => simp [intOf]; omega
      · have he : cv.length = bs.length := by omega
        have hfin : TurnAt W0 w.heap.size (.slice (some a) bs.length cap) (.slice (some ⟨w.heap.size, 0, none⟩) bs.length bs.length) vals cv bs := by
          refine .inr ⟨rfl, w.heap.size, Nat.le_refl _, rfl, he, ?_, HS.out.flip⟩
          have h := HS.out.blk
          rw [he, Nat.sub_self, List.replicate_zero, List.append_nil] at h
          exact h
        have HF := hide hfin
        have HBl := hide HS.out.below
        clear hfin HS HV HLL
        go_wp2
        go_ret
        exact ⟨_, rfl, ⟨cv, HF.out⟩, HBl.out⟩
end Go.Proofs.YtcidgfdiacehmaaDoor

/- choirlaw's over: what roomy made is written over. -/
namespace Go.Proofs.YtcidgfdiacehmaaDoor
open Go.RowKit Go.Lib

/-- What roomy made, its samples those of other series from a number on. -/
def mixB (bs : List Ser) (k : Nat) : List Ser := flipB (bs.take k) ++ bs.drop k
/-- One block's content while it is written over. -/
def mixS (l : List (Int × Nat)) (j : Nat) : List (Int × Nat) := flipS (l.take j) ++ l.drop j
theorem mixS_length (l : List (Int × Nat)) (j : Nat) : (mixS l j).length = l.length := by simp [mixS, flipS]; omega
theorem mixS_zero (l : List (Int × Nat)) : mixS l 0 = l := by simp [mixS, flipS]
theorem mixS_all (l : List (Int × Nat)) : mixS l l.length = flipS l := by simp [mixS]
theorem mixS_get {l : List (Int × Nat)} {j : Nat} {x : Int × Nat} (h : l[j]? = some x) : (mixS l j)[j]? = some x := by
  have hj := (List.getElem?_eq_some_iff.1 h).1
  unfold mixS
  rw [List.getElem?_append_right (by simp [flipS]; omega)]
  simp [flipS, List.getElem?_drop, Nat.min_eq_left (Nat.le_of_lt hj), h]
theorem mixS_step {l : List (Int × Nat)} {j : Nat} {x : Int × Nat} (h : l[j]? = some x) : (mixS l j).set j (x.1, x.2 ^^^ 5) = mixS l (j + 1) := by
  have hj := (List.getElem?_eq_some_iff.1 h).1
  unfold mixS
  have hl : (flipS (l.take j)).length = j := by rw [flipS_length, List.length_take]; omega
  rw [List.set_append_right _ _ (by omega), hl, Nat.sub_self, take_more l j x h, List.drop_eq_getElem_cons hj, List.set_cons_zero]
  simp [flipS]
theorem samP_set (l : List (Int × Nat)) (j : Nat) (x : Int × Nat) : (samP l).set j (.int .i64 x.1, .int .u64 x.2) = samP (l.set j x) := by simp [samP, List.map_set]
/-- Blocks that hold samples. -/
def sBlocks (rv : List (Value × Value)) (k : Nat) : Prop := ∃ (i : Nat) (q : Value × Value), rv[i]? = some q ∧ q.2.ownBlock = some k
/-- How far over has come: f: what series number i now has. -/
structure OS (w W : World) (base : Nat) (bs : List Ser) (rv : List (Value × Value)) (f : Nat → List (Int × Nat) → List (Int × Nat)) : Prop where
  below : Below base w W
  rest : ∀ k, ¬ sBlocks rv k → W.heap[k]? = w.heap[k]?
  size : W.heap.size = w.heap.size
  done : ∀ (i : Nat) (q : Value × Value) (x : Ser) (k : Nat), rv[i]? = some q → bs[i]? = some x → q.2.ownBlock = some k → Blk W k 56 (serCells (roomP (samP (f i x.2)) samX samZ 8))
theorem OS.congr {w W : World} {base : Nat} {bs : List Ser} {rv : List (Value × Value)} {f f' : Nat → List (Int × Nat) → List (Int × Nat)} (h : OS w W base bs rv f) (he : ∀ i x, bs[i]? = some x → f' i x.2 = f i x.2) : OS w W base bs rv f' :=
  ⟨h.below, h.rest, h.size, fun i q x k hq hx hk => by rw [he i x hx]; exact h.done i q x k hq hx hk⟩
theorem OS.drew {w W : World} {base : Nat} {bs : List Ser} {rv : List (Value × Value)} {f : Nat → List (Int × Nat) → List (Int × Nat)} (h : OS w W base bs rv f) : OS w W.drew base bs rv f := ⟨h.below.drew, h.rest, h.size, h.done⟩
/-- One sample more. -/
theorem OS.step {w W : World} {base g m j k : Nat} {bs : List Ser} {rv : List (Value × Value)} {bb : List Nat} {f f' : Nat → List (Int × Nat) → List (Int × Nat)} {q : Value × Value} {x : Ser} {y : Int × Nat} (h : OS w W base bs rv f) (ha : Apart rv g bb) (hq : rv[m]? = some q) (hx : bs[m]? = some x) (hk : q.2.ownBlock = some k) (hb : base ≤ k)
    (hy : x.2[j]? = some y) (hf : f m x.2 = mixS x.2 j) (hf' : f' m x.2 = mixS x.2 (j + 1)) (ho : ∀ i, i ≠ m → f' i = f i) : OS w (W.setCell ⟨k, j * 2 + 1, none⟩ (.int .u64 ((y.2 ^^^ 5 : Nat) : Int))) base bs rv f' := by
  refine ⟨h.below.setCell hb _, fun p hp => ?_, by simpa using h.size, fun i r z p hr hz hp => ?_⟩
  · have hne : p ≠ k := fun e => hp ⟨m, q, hq, by rw [hk, e]⟩
    rw [Below.heap_setCell _ _ _ p hne]; exact h.rest p hp
  · by_cases e : i = m
    · subst e
      rw [hq] at hr; cases hr
      rw [hx] at hz; cases hz
      rw [hk] at hp; cases hp
      have hB := h.done i q x k hq hx hk
      rw [hf] at hB
      rw [hf']
      have hg : (roomP (samP (mixS x.2 j)) samX samZ 8)[j]? = some (.int .i64 y.1, .int .u64 y.2) := roomP_front _ _ _ _ (samP_get (mixS_get hy))
      have hs := (serCells_set hB j hg (.int .u64 ((y.2 ^^^ 5 : Nat) : Int))).2
      have hj : j < (samP (mixS x.2 j)).length := by rw [samP_length, mixS_length]; exact (List.getElem?_eq_some_iff.1 hy).1
      rw [roomP, List.set_append_left _ _ hj] at hs
      have e3 := samP_set (mixS x.2 j) j (y.1, y.2 ^^^ 5)
      rw [mixS_step hy] at e3
      simp only at e3
      rw [e3] at hs
      exact hs
    · rw [ho i e]
      have hne : p ≠ k := fun e2 => ((ha m q k hq hk).2.2 i r hr).2 e (by rw [hp, e2])
      exact (h.done i r z p hr hz hp).other hne _
theorem RoomB.with {W : World} {base : Nat} {v v' r : Value} {vals vals' : List (Value × Value)} {bs : List Ser} {rv : List (Value × Value)} (h : RoomB W base v r vals bs rv) (hn : isNil v' = isNil v) (hvl : vals.length = bs.length) (hv : ∀ (i : Nat) (p q : Value × Value), vals[i]? = some p → vals'[i]? = some q → isNil q.1 = isNil p.1 ∧ isNil q.2 = isNil p.2) : RoomB W base v' r vals' bs rv := by
  rcases h with ⟨h1, h2⟩ | ⟨h1, g, bb, hg, hr, hl, hb, hB, hbs, hro, ha⟩
  · exact .inl ⟨by rw [hn]; exact h1, h2⟩
  · refine .inr ⟨by rw [hn]; exact h1, g, bb, hg, hr, hl, hb, hB, hbs, fun i p' q x hp' hq hx => ?_, ha⟩
    obtain ⟨p, hp⟩ : ∃ p, vals[i]? = some p := ⟨_, List.getElem?_eq_getElem (by rw [hvl]; exact (List.getElem?_eq_some_iff.1 hx).1)⟩
    have hh := hro i p q x hp hq hx
    obtain ⟨e1, e2⟩ := hv i p p' hp hp'
    refine ⟨?_, ?_⟩
    · rcases hh.labels with ⟨a1, a2⟩ | ⟨a1, a2⟩
      · exact .inl ⟨by rw [e1]; exact a1, a2⟩
      · exact .inr ⟨by rw [e1]; exact a1, a2⟩
    · rcases hh.samples with ⟨a1, a2⟩ | ⟨a1, a2⟩
      · exact .inl ⟨by rw [e2]; exact a1, a2⟩
      · exact .inr ⟨by rw [e2]; exact a1, a2⟩
/-- Written over to the end. -/
theorem OS.fin {w W : World} {base : Nat} {v r : Value} {vals : List (Value × Value)} {bs : List Ser} {rv : List (Value × Value)} {f : Nat → List (Int × Nat) → List (Int × Nat)} (h : OS w W base bs rv f) (hR : RoomB w base v r vals bs rv) (hf : ∀ i x, bs[i]? = some x → f i x.2 = flipS x.2) (hvl : vals.length = bs.length) : RoomB W base v r vals (flipB bs) rv := by
  rcases hR with ⟨h1, h2, rfl, h4⟩ | ⟨h1, g, bb, hg, hr, hl, hb, hB, hbs, hro, ha⟩
  · exact .inl ⟨h1, h2, rfl, h4⟩
  · have hgn : ¬ sBlocks rv g := fun ⟨i, q, hq, hk⟩ => (ha i q g hq hk).1 rfl
    have hbn : ∀ y ∈ bb, ¬ sBlocks rv y := fun y hy ⟨i, q, hq, hk⟩ => (ha i q y hq hk).2.1 hy
    refine .inr ⟨h1, g, bb, hg, by rw [flipB_length]; exact hr, by rw [flipB_length]; exact hl, hb, hB.kept (h.rest g hgn), fun y hy => ⟨(hbs y hy).1, (hbs y hy).2.kept (h.rest y (hbn y hy))⟩, fun i p q y hp hq hy => ?_, ha⟩
    obtain ⟨x, hx, rfl⟩ := flipB_get hy
    have hh := hro i p q x hp hq hx
    refine ⟨Room.kept hh.labels fun k hk => h.rest k fun ⟨j, u, hu, hk2⟩ => ((ha j u k hu hk2).2.2 i q hq).1 hk, ?_⟩
    rcases hh.samples with ⟨a1, a2, a3⟩ | ⟨a1, k, a2, a3, a4⟩
    · refine .inl ⟨a1, a2, ?_⟩
      have : x.2 = [] := by simpa [samP] using a3
      simp [this, flipS, samP]
    · refine .inr ⟨a1, k, a2, ?_, ?_⟩
      · rw [a3]; simp [samP, flipS]
      · have := h.done i q x k hq hx (by rw [a3]; rfl)
        rw [hf i x hx] at this; exact this
theorem OS.start {w : World} {base : Nat} {v r : Value} {vals : List (Value × Value)} {bs : List Ser} {rv : List (Value × Value)} (hR : RoomB w base v r vals bs rv) (hvl : vals.length = bs.length) : OS w w base bs rv fun _ l => l := by
  refine ⟨Below.refl _ _, fun _ _ => rfl, rfl, fun i q x k hq hx hk => ?_⟩
  rcases hR with ⟨_, _, rfl, _⟩ | ⟨h1, g, bb, hg, hr, hl, hb, hB, hbs, hro, ha⟩
  · simp at hx
  · obtain ⟨p, hp⟩ : ∃ p, vals[i]? = some p := ⟨_, List.getElem?_eq_getElem (by rw [hvl]; exact (List.getElem?_eq_some_iff.1 hx).1)⟩
    rcases (hro i p q x hp hq hx).samples with ⟨_, a2, _⟩ | ⟨_, k', _, a3, a4⟩
    · rw [a2] at hk; cases hk
    · rw [a3] at hk; cases hk; exact a4
end Go.Proofs.YtcidgfdiacehmaaDoor

/- choirlaw's over: the walk. -/
namespace Go.Proofs.YtcidgfdiacehmaaDoor
open Go.RowKit Go.Lib

def stF (m : Nat) : Nat → List (Int × Nat) → List (Int × Nat) := fun i l => if i < m then flipS l else l
def inF (m j : Nat) : Nat → List (Int × Nat) → List (Int × Nat) := fun i l => if i < m then flipS l else if i = m then mixS l j else l

set_option maxRecDepth 100000 in
set_option maxHeartbeats 1000000 in
theorem over_any (base base2 : Nat) (v r c : Value) (vals cv : List (Value × Value)) (bs : List Ser) (rv : List (Value × Value)) (w : World) (hR : RoomB w base v r vals bs rv) (hT : TurnAt w base2 v c vals cv bs) (hvl : vals.length = bs.length) (hsep : ∀ k, sBlocks rv k → k < base2) (hll : bs.length ≤ 3000000000000 ∧ ∀ s ∈ bs, s.2.length ≤ 8800000000000) :
    Calls Tryd.prog 12 #[r, c] w fun e w' => e = .returned (.tuple #[]) ∧ RoomB w' base v r vals (flipB bs) rv ∧ (∀ k, ¬ sBlocks rv k → w'.heap[k]? = w.heap[k]?) ∧ Below base w w' := by
  have HFin := hide (fun W (h : OS w W base bs rv (stF bs.length)) => h.fin hR (fun i x hx => by unfold stF; rw [if_pos (List.getElem?_eq_some_iff.1 hx).1]) hvl)
  have HS0 := hide (OS.start hR hvl)
  rcases hR with ⟨h1, rfl, rfl, rfl⟩ | ⟨h1, g, bb, hg, rfl, hl, hb, hB, hbs, hro, ha⟩
  · rcases hT with ⟨_, rfl, _, _⟩ | ⟨h2, _⟩
    · go_enter Tryd.func12, Tryd.ntmps12
      go_wp2
      go_loopw [4, 5] (fun i _ wr => i = .int .i64 0 ∧ wr = w) (fun _ _ _ => 0)
      case atStart => exact ⟨rfl, rfl⟩
      case round =>
        obtain ⟨rfl, rfl⟩ := hrel
        go_wp2
        go_end0
        exact ⟨rfl, HFin.out _ HS0.out, fun _ _ => rfl, Below.refl _ _⟩
    · rw [h1] at h2; cases h2
  · rcases hT with ⟨h2, _⟩ | ⟨_, gc, hgc, rfl, hcl, hBc, hfl⟩
    · rw [h1] at h2; cases h2
    · have hgn : ¬ sBlocks rv g := fun ⟨i, q, hq, hk⟩ => (ha i q g hq hk).1 rfl
      have hcn : ¬ sBlocks rv gc := fun hs => by have := hsep gc hs; omega
      have HB := hide hB
      have HBc := hide hBc
      have HRo := hide hro
      have HFl := hide hfl
      have HA := hide ha
      have HSep := hide hsep
      have HLL := hide hll.2
      have hbl := hll.1
      have HGn := hide hgn
      have HCn := hide hcn
      clear hB hBc hro hfl ha hbs hsep hgn hcn hll
      go_enter Tryd.func12, Tryd.ntmps12
      go_wp2
      go_loopw [4, 5] (fun i _ wr => ∃ m : Nat, m ≤ bs.length ∧ i = .int .i64 m ∧ Hid (OS w wr base bs rv (stF m))) (fun i _ _ => bs.length - (intOf i).toNat)
      case atStart => exact ⟨0, Nat.zero_le _, rfl, HS0.out.congr fun i x _ => by simp [stF]⟩
      case round =>
        generalize wr = W0 at *
        obtain ⟨m, hm, rfl, HS⟩ := hrel
        clear HS0
        by_cases hlt : m < bs.length
        · obtain ⟨x, hx⟩ : ∃ x, bs[m]? = some x := ⟨_, List.getElem?_eq_getElem hlt⟩
          obtain ⟨p, hp⟩ : ∃ p, vals[m]? = some p := ⟨_, List.getElem?_eq_getElem (by omega)⟩
          obtain ⟨q, hq⟩ : ∃ q, rv[m]? = some q := ⟨_, List.getElem?_eq_getElem (by omega)⟩
          obtain ⟨u, hu⟩ : ∃ u, cv[m]? = some u := ⟨_, List.getElem?_eq_getElem (by omega)⟩
          have hxl := HLL.out x (List.mem_of_getElem? hx)
          have hrm := (HRo.out m p q x hp hq hx)
          have hfm := (HFl.out m p u x hp hu hx)
          have hqs : ∃ qa qc, q.2 = .slice qa x.2.length qc ∧ (x.2 ≠ [] → ∃ k, qa = some ⟨k, 0, none⟩ ∧ base ≤ k) := by
            rcases hrm.samples with ⟨_, a2, a3⟩ | ⟨_, k, a2, a3, _⟩
            · have h0 : x.2 = [] := by simpa [samP] using a3
              exact ⟨none, 0, by rw [a2, h0]; rfl, fun h => absurd h0 h⟩
            · exact ⟨some ⟨k, 0, none⟩, _, by rw [a3, samP_length], fun _ => ⟨k, rfl, a2⟩⟩
          obtain ⟨qa, qc, hq2, hqk⟩ := hqs
          have hus : ∃ ua uc, u.2 = .slice ua x.2.length uc ∧ (x.2 ≠ [] → ∃ h, ua = some ⟨h, 0, none⟩ ∧ base2 ≤ h ∧ Blk w h 56 (serCells (samP (flipS x.2)))) := by
            rcases hfm.2 with ⟨_, a2, a3⟩ | ⟨_, k, a2, _, a3, a4⟩
            · exact ⟨none, 0, by rw [a2, a3]; rfl, fun h => absurd a3 h⟩
            · exact ⟨some ⟨k, 0, none⟩, _, a3, fun _ => ⟨k, rfl, a2, a4⟩⟩
          obtain ⟨ua, uc, hu2, huk⟩ := hus
          have hg1 := serCells_get (l := rv ++ bb.map beyV) (i := m) (p := q) (by rw [List.getElem?_append_left (by omega)]; exact hq)
          have hg2 := serCells_get hu
          have T1 : Hid (∀ W : World, (∀ k, ¬ sBlocks rv k → W.heap[k]? = w.heap[k]?) → W.cell? ⟨g, m * 2 + 1, none⟩ = some (.slice qa x.2.length qc) ∧ W.cell? ⟨gc, m * 2 + 1, none⟩ = some (.slice ua x.2.length uc)) := fun W hW => by
            refine ⟨?_, ?_⟩
            · rw [← hq2]; exact (HB.out.kept (hW g HGn.out)).cell hg1.2
            · rw [← hu2]; exact (HBc.out.kept (hW gc HCn.out)).cell hg2.2
          have HX := hide hx
          have HQ := hide hq
          have HQ2 := hide hq2
          have HQk := hide hqk
          have HUk := hide huk
          clear hx hp hq hu hrm hfm hq2 hu2 hqk huk hg1 hg2
          obtain ⟨t1, t2⟩ := T1.out W0 HS.out.rest
          go_wp2
          go_loopw [5] (fun i wr => ∃ j : Nat, j ≤ x.2.length ∧ i = .int .i64 j ∧ Hid (OS w wr base bs rv (inF m j))) (fun i _ => x.2.length - (intOf i).toNat)
          case atStart => exact ⟨0, Nat.zero_le _, rfl, HS.out.congr fun i y _ => by
              unfold inF stF
              by_cases e : i = m
              · subst e; rw [if_neg (by omega), if_pos rfl, if_neg (by omega), mixS_zero]
              · by_cases e2 : i < m
                · rw [if_pos e2, if_pos e2]
                · rw [if_neg e2, if_neg e, if_neg e2]⟩
          case round =>
            clear HS t1 t2
            obtain ⟨j, hj, rfl, HS⟩ := hrel
            obtain ⟨t1, t2⟩ := T1.out wr HS.out.rest
            by_cases hjl : j < x.2.length
            · obtain ⟨⟨y1, y2⟩, hy⟩ : ∃ y, x.2[j]? = some y := ⟨_, List.getElem?_eq_getElem hjl⟩
              have hne : x.2 ≠ [] := fun e => by rw [e] at hjl; simp at hjl
              obtain ⟨k, rfl, hkb⟩ := HQk.out hne
              obtain ⟨h, rfl, hhb, hBh⟩ := HUk.out hne
              have hown : q.2.ownBlock = some k := by rw [HQ2.out]; rfl
              have hks : sBlocks rv k := ⟨m, q, HQ.out, hown⟩
              have hk2 := HSep.out k hks
              have hkg : ¬ k = g := (HA.out m q k HQ.out hown).1
              have hkc : ¬ k = gc := by omega
              have hkh : ¬ k = h := by omega
              have hhn : ¬ sBlocks rv h := fun hs => by have := HSep.out h hs; omega
              have e3 : (flipS x.2)[j]? = some (y1, y2 ^^^ 5) := by simp [flipS, hy]
              have t3 := (hBh.kept (HS.out.rest h hhn)).cell (serCells_get (samP_get e3)).2
              have hBk := HS.out.done m q x k HQ.out HX.out hown
              have e4 : inF m j m x.2 = mixS x.2 j := by unfold inF; rw [if_neg (by omega), if_pos rfl]
              rw [e4] at hBk
              have hgk := serCells_get (roomP_front (samP (mixS x.2 j)) samX samZ 8 (samP_get (mixS_get hy)))
              have t4 := hBk.cell hgk.2
              have f4 := hBk.frozen (j * 2 + 1)
              have HN := hide (HS.out.step (f' := inF m (j + 1)) HA.out HQ.out HX.out hown hkb hy e4 (by unfold inF; rw [if_neg (by omega), if_pos rfl]) (fun i hi => by unfold inF; funext l; simp [hi]))
              simp only at t3 t4 HN
              have q1 : (m : Int) < (bs.length : Int) := by omega
              have q2 : (0 : Int) ≤ (m : Int) := by omega
              have q3 : (j : Int) < (x.2.length : Int) := by omega
              have q4 : (0 : Int) ≤ (j : Int) := by omega
              clear hy hne hks hBk hgk e3 e4 hBh HS hown
              go_wp2
              as_aux_lemma =>
                go_region_held3 (fun w' => w'.cell? ⟨g, m * 2 + 1, none⟩ = some (.slice (some ⟨k, 0, none⟩) x.2.length qc) ∧ w'.cell? ⟨gc, m * 2 + 1, none⟩ = some (.slice (some ⟨h, 0, none⟩) x.2.length uc) ∧ w'.cell? ⟨h, j * 2 + 1, none⟩ = some (.int .u64 ((y2 ^^^ 5 : Nat) : Int))) (go_keep) (fail)
                all_goals
                  go_wp2
                  go_roundw
                  case rel => exact ⟨j + 1, by omega, by go_num, HN.out.drew⟩
                  case measure => simp [intOf]; omega
            · have hje : j = x.2.length := by omega
              have HN : Hid (OS w wr base bs rv (stF (m + 1))) := HS.out.congr fun i y hy => by
                unfold inF stF
                by_cases e : i = m
                · subst e
                  have h := HX.out
                  rw [hy] at h; cases h
                  rw [if_pos (by omega), if_neg (by omega), if_pos rfl, hje, mixS_all]
                · by_cases e2 : i < m
                  · rw [if_pos (by omega), if_pos e2]
                  · rw [if_neg (by omega), if_neg e2, if_neg e]
              clear HS
              go_wp2
              go_roundw
              case rel => exact ⟨m + 1, by omega, by go_num, HN.out⟩
              case measure => simp [intOf]; omega
        · have hme : m = bs.length := by omega
          have HE : Hid (OS w W0 base bs rv (stF bs.length)) := by rw [← hme]; exact HS.out
          clear HS
          go_wp2
          go_end0
          exact ⟨rfl, HFin.out _ HE.out, HE.out.rest, HE.out.below⟩
end Go.Proofs.YtcidgfdiacehmaaDoor

/- choirlaw.Codes: the walk. -/
namespace Go.Proofs.YtcidgfdiacehmaaDoor
open Go.RowKit Go.Lib

theorem Room.slice {w : World} {base T : Nat} {x z : Value × Value} {v v' : Value} {ps : List (Value × Value)} (h : Room w base T x z v v' ps) : ∃ a c, v' = .slice a ps.length c ∧ ps.length ≤ c ∧ (ps = [] ∨ ∃ g, a = some ⟨g, 0, none⟩ ∧ g < w.heap.size ∧ ∀ i p, ps[i]? = some p → w.cell? ⟨g, i * 2, none⟩ = some p.1 ∧ w.cell? ⟨g, i * 2 + 1, none⟩ = some p.2) := by
  rcases h with ⟨_, rfl, rfl⟩ | ⟨_, g, _, rfl, hB⟩
  · exact ⟨none, 0, rfl, Nat.le_refl _, .inl rfl⟩
  · refine ⟨_, _, rfl, by omega, .inr ⟨g, rfl, hB.lt, fun i p hp => ?_⟩⟩
    have := serCells_get (roomP_front ps x z 8 hp)
    exact ⟨hB.cell this.1, hB.cell this.2⟩
theorem RoomL.labelsAt {w : World} {base : Nat} {v v' : Value} {l : List Lab} (h : RoomL w base v v' l) : LabelsAt w w.heap.size v' l := by
  obtain ⟨a, c, hv, hc, h2⟩ := Room.slice h
  rw [labP_length] at hv hc
  refine ⟨a, c, hv, hc, ?_⟩
  rcases h2 with h2 | ⟨g, ha, hg, hcell⟩
  · exact .inl (by simpa [labP] using h2)
  · refine .inr ⟨g, 0, ha, hg, fun i x hx => ?_⟩
    rw [Nat.zero_add]
    exact hcell i (.string x.1, .string x.2) (by simp [labP, hx])
theorem RoomS.samplesAt {w : World} {base : Nat} {v v' : Value} {l : List (Int × Nat)} (h : RoomS w base v v' l) (hr : ∀ x ∈ l, -9223372036854775808 ≤ x.1 ∧ x.1 ≤ 9223372036854775807 ∧ x.2 ≤ 18446744073709551615) : SamplesAt w w.heap.size v' l := by
  obtain ⟨a, c, hv, hc, h2⟩ := Room.slice h
  rw [samP_length] at hv hc
  refine ⟨a, c, hv, hc, hr, ?_⟩
  rcases h2 with h2 | ⟨g, ha, hg, hcell⟩
  · exact .inl (by simpa [samP] using h2)
  · refine .inr ⟨g, 0, ha, hg, fun i x hx => ?_⟩
    rw [Nat.zero_add]
    exact hcell i _ (samP_get hx)
def InR (bs : List Ser) : Prop := ∀ s ∈ bs, ∀ x ∈ s.2, -9223372036854775808 ≤ x.1 ∧ x.1 ≤ 9223372036854775807 ∧ x.2 ≤ 18446744073709551615
theorem BatchV.inR {w : World} {B : Nat} {v : Value} {vals : List (Value × Value)} {bs : List Ser} (h : BatchV w B v vals bs) : InR bs := fun s hs => by
  obtain ⟨hl, _, _, _, _, _, h3⟩ := h
  obtain ⟨i, hi, rfl⟩ := List.mem_iff_getElem.1 hs
  obtain ⟨_, _, _, _, hr, _⟩ := (h3 i vals[i] bs[i] (List.getElem?_eq_getElem (by omega)) (List.getElem?_eq_getElem hi)).2
  exact hr
theorem InR.flip {bs : List Ser} (h : InR bs) : InR (flipB bs) := fun s hs x hx => by
  obtain ⟨t, ht, rfl⟩ := List.mem_map.1 hs
  obtain ⟨y, hy, rfl⟩ := List.mem_map.1 hx
  have := h t ht y hy
  exact ⟨this.1, this.2.1, flip_le this.2.2⟩
theorem RoomB.batchAt {w : World} {base : Nat} {v r : Value} {vals : List (Value × Value)} {bs : List Ser} {rv : List (Value × Value)} (h : RoomB w base v r vals bs rv) (hvl : vals.length = bs.length) (hr : InR bs) : BatchAt w w.heap.size r bs := by
  rcases h with ⟨_, rfl, rfl, _⟩ | ⟨_, g, bb, _, rfl, hl, _, hB, _, hro, _⟩
  · exact ⟨none, 0, rfl, Nat.le_refl _, .inl rfl⟩
  · refine ⟨_, _, rfl, by omega, .inr ⟨g, 0, rfl, hB.lt, fun i x hx => ?_⟩⟩
    have hi := (List.getElem?_eq_some_iff.1 hx).1
    obtain ⟨p, hp⟩ : ∃ p, vals[i]? = some p := ⟨_, List.getElem?_eq_getElem (by omega)⟩
    obtain ⟨q, hq⟩ : ∃ q, rv[i]? = some q := ⟨_, List.getElem?_eq_getElem (by omega)⟩
    have hg := serCells_get (l := rv ++ bb.map beyV) (i := i) (p := q) (by rw [List.getElem?_append_left (by omega)]; exact hq)
    have hh := hro i p q x hp hq hx
    rw [Nat.zero_add]
    exact ⟨q.1, q.2, hB.cell hg.1, hB.cell hg.2, RoomL.labelsAt hh.labels, RoomS.samplesAt hh.samples (hr x (List.mem_of_getElem? hx))⟩
theorem RoomB.kept {w w' : World} {base : Nat} {v r : Value} {vals : List (Value × Value)} {bs : List Ser} {rv : List (Value × Value)} (h : RoomB w base v r vals bs rv) (hk : ∀ k, base ≤ k → k < w.heap.size → w'.heap[k]? = w.heap[k]?) : RoomB w' base v r vals bs rv := by
  rcases h with h | ⟨h1, g, bb, hg, hr, hl, hb, hB, hbs, hro, ha⟩
  · exact .inl h
  · refine .inr ⟨h1, g, bb, hg, hr, hl, hb, hB.kept (hk g hg hB.lt), fun q hq => ⟨(hbs q hq).1, (hbs q hq).2.kept (hk q (hbs q hq).1 (hbs q hq).2.lt)⟩, fun i p q x hp hq hx => ?_, ha⟩
    have hh := hro i p q x hp hq hx
    refine hh.kept fun k e => ?_
    rcases e with e | e
    · have := Room.own hh.labels e; exact hk k this.1 this.2
    · have := Room.own hh.samples e; exact hk k this.1 this.2
theorem RoomB.below {w w' : World} {base : Nat} {v r : Value} {vals : List (Value × Value)} {bs : List Ser} {rv : List (Value × Value)} (h : RoomB w base v r vals bs rv) (hb : Below w.heap.size w w') : RoomB w' base v r vals bs rv := h.kept fun k _ hk => hb.block k hk
theorem RoomB.blocks {w : World} {base : Nat} {v r : Value} {vals : List (Value × Value)} {bs : List Ser} {rv : List (Value × Value)} (h : RoomB w base v r vals bs rv) (hvl : vals.length = bs.length) {k : Nat} (hk : sBlocks rv k) : base ≤ k ∧ k < w.heap.size := by
  obtain ⟨i, q, hq, hk⟩ := hk
  rcases h with ⟨_, _, _, rfl⟩ | ⟨h1, g, bb, hg, hr, hl, hb, hB, hbs, hro, ha⟩
  · simp at hq
  · have hi := (List.getElem?_eq_some_iff.1 hq).1
    exact Room.own (hro i vals[i] q bs[i] (List.getElem?_eq_getElem (by omega)) hq (List.getElem?_eq_getElem (by omega))).samples hk
theorem RoomB.shape {w : World} {base : Nat} {v r : Value} {vals : List (Value × Value)} {bs : List Ser} {rv : List (Value × Value)} (h : RoomB w base v r vals bs rv) : ∃ a n c, r = .slice a n c := by
  rcases h with ⟨_, rfl, _⟩ | ⟨_, g, bb, _, rfl, _⟩ <;> exact ⟨_, _, _, rfl⟩
theorem TurnAt.shape {w : World} {base : Nat} {v c : Value} {vals cv : List (Value × Value)} {bs : List Ser} (h : TurnAt w base v c vals cv bs) : ∃ a n m, c = .slice a n m := by
  rcases h with ⟨_, rfl, _⟩ | ⟨_, g, _, rfl, _⟩ <;> exact ⟨_, _, _, rfl⟩
theorem TurnAt.nils {w : World} {base : Nat} {v c : Value} {vals cv : List (Value × Value)} {bs : List Ser} (h : TurnAt w base v c vals cv bs) (hvl : vals.length = bs.length) : ∀ (i : Nat) (p q : Value × Value), vals[i]? = some p → cv[i]? = some q → isNil q.1 = isNil p.1 ∧ isNil q.2 = isNil p.2 := fun i p q hp hq => by
  rcases h with ⟨_, _, _, rfl⟩ | ⟨_, g, _, _, _, _, hf⟩
  · simp at hq
  · have hi := (List.getElem?_eq_some_iff.1 hp).1
    exact (hf i p q bs[i] hp hq (List.getElem?_eq_getElem (by omega))).nils
/-- What an input is bounded by. -/
structure Mid (bs : List Ser) : Prop where
  series : bs.length ≤ 3000000000000
  lists : ∀ s ∈ bs, s.1.length ≤ 4400000000000 ∧ s.2.length ≤ 8800000000000
theorem Mid.small {bs : List Ser} (h : Mid bs) : Small bs := ⟨by have := h.series; omega, fun s hs => by have := (h.lists s hs).1; omega, fun s hs => by have := (h.lists s hs).2; omega⟩
theorem Mid.flip {bs : List Ser} (h : Mid bs) : Mid (flipB bs) := ⟨by rw [flipB_length]; exact h.series, fun s hs => by
  obtain ⟨t, ht, rfl⟩ := List.mem_map.1 hs
  have := h.lists t ht
  exact ⟨this.1, by show (flipS t.2).length ≤ _; rw [flipS_length]; exact this.2⟩⟩
/-- What Encode answers. -/
def encS (bs : List Ser) (n : Nat) : ByteArray := if n = 0 then ⟨(frameOf (payload bs)).toArray⟩ else ByteArray.empty

set_option maxRecDepth 100000 in
set_option maxHeartbeats 1000000 in
theorem codes_any (v : Value) (bs : List Ser) (w : World) (hS : BatchAt w w.heap.size v bs) (hM : Mid bs) (hT : Tabs w) :
    Calls Tryd.prog 3 #[v] w fun e w' => e = .returned (.bool true) ∧ Below w.heap.size w w' := by
  have h3 := hT.lt
  obtain ⟨vals, hV⟩ := hS.vals
  have hvl := hV.1
  have hin := hV.inR
  obtain ⟨va, vc, rfl, _⟩ := id hS
  have C1 := hide (roomy_any w.heap.size _ vals bs w hV (Nat.le_refl _) hM.series hM.lists)
  have HV := hide hV
  have HT := hide hT
  have HM := hide hM
  have HI := hide hin
  clear hS hV hT hM hin
  go_enter Tryd.func3, Tryd.ntmps3
  go_wp2_with fail
  refine C1.out.mono ?_
  rintro e w1 ⟨r, rfl, ⟨rv, hR⟩, hb1⟩
  have hs1 := hb1.size
  obtain ⟨ra, rn, rc, rfl⟩ := hR.shape
  have C2 := hide (encode_any w1.heap.size _ bs w1 (hR.batchAt hvl HI.out) (Nat.le_refl _) (HT.out.below hb1 h3) HM.out.small)
  have HR1 := hide hR
  have HB1 := hide hb1
  clear hR hb1 C1
  go_wp2_with fail
  refine C2.out.mono ?_
  rintro e w2 ⟨⟨n1, hn1, rfl⟩, hb2⟩
  have hs2 := hb2.size
  have HR2 := hide (HR1.out.below hb2)
  have HB2 := hide (HB1.out.trans (hb2.mono hs1))
  have HN1 := hide hn1
  have C3 := hide (refEncode_any w.heap.size _ bs w2 (HV.out.below HB2.out (Nat.le_refl _)).batchAt (by omega) HM.out.small)
  clear hn1 hb2 C2
  rw [show (if n1 = 0 then (⟨(frameOf (payload bs)).toArray⟩ : ByteArray) else ByteArray.empty) = encS bs n1 from rfl]
  go_wp2_with fail
  refine C3.out.mono ?_
  rintro e w3 ⟨⟨n2, hn2, rfl⟩, hb3⟩
  obtain rfl := hn2.unique HN1.out
  rw [show (if n2 = 0 then (⟨(frameOf (payload bs)).toArray⟩ : ByteArray) else ByteArray.empty) = encS bs n2 from rfl]
  have hs3 := hb3.size
  have HR3 := hide (HR2.out.below hb3)
  have HB3 := hide (HB2.out.trans (hb3.mono (by omega)))
  have C4 := hide (whole_any w.heap.size w.heap.size _ _ vals bs rv w3 HR3.out (HV.out.below HB3.out (Nat.le_refl _)) HM.out.series HM.out.lists)
  clear hn2 hb3 C3 HN1
  generalize encS bs n2 = s1 at *
  go_wp2_with fail
  refine C4.out.mono ?_
  rintro e w4 ⟨rfl, q4, rfl⟩
  have HB4 := hide (below_drewN HB3.out q4)
  have HR4 := hide (HR3.out.kept (w' := w3.drewN q4) fun _ _ _ => rfl)
  obtain ⟨W4, hW4⟩ : ∃ W4, W4 = w3.drewN q4 := ⟨_, rfl⟩
  rw [← hW4] at HB4 HR4 ⊢
  have hs4 : w3.heap.size = W4.heap.size := by rw [hW4]; rfl
  have C5 := hide (lturned_any w.heap.size _ vals bs W4 (HV.out.below HB4.out (Nat.le_refl _)) (by omega) HM.out.series (fun s hs => (HM.out.lists s hs).2))
  clear hW4 C4
  go_wp2_with fail
  refine C5.out.mono ?_
  rintro e w5 ⟨c, rfl, ⟨cv, hTu⟩, hb5⟩
  have hs5 := hb5.size
  obtain ⟨ca, cn, cc, rfl⟩ := hTu.shape
  have HR5 := hide (HR4.out.below hb5)
  have HB5 := hide (HB4.out.trans (hb5.mono (by omega)))
  have C6 := hide (over_any w.heap.size W4.heap.size _ _ _ vals cv bs rv w5 HR5.out hTu hvl (fun k hk => (HR4.out.blocks hvl hk).2) ⟨HM.out.series, fun s hs => (HM.out.lists s hs).2⟩)
  have HTu := hide hTu
  clear hTu hb5 C5
  go_wp2_with fail
  refine C6.out.mono ?_
  rintro e w6 ⟨rfl, hR6, hk6, hb6⟩
  have hs6 := hb6.size
  have HB6 := hide (HB5.out.trans hb6)
  have hTu6 := HTu.out.kept (w' := w6) fun k hk _ => hk6 k fun hs => by have := (HR4.out.blocks hvl hs).2; omega
  have hV6 := hTu6.batchV (HV.out.below HB6.out (Nat.le_refl _)) (by omega)
  have HV6 := hide hV6
  have C7 := hide (encode_any w6.heap.size _ (flipB bs) w6 (hR6.batchAt (by rw [flipB_length]; exact hvl) HI.out.flip) (Nat.le_refl _) (HT.out.below HB6.out h3) HM.out.flip.small)
  have HR6 := hide (hR6.with (v' := .slice ca cn cc) (vals' := cv) hTu6.nil (by rw [flipB_length]; exact hvl) (hTu6.nils hvl))
  clear hR6 hk6 hb6 hTu6 hV6 C6 HTu
  go_wp2_with fail
  refine C7.out.mono ?_
  rintro e w7 ⟨⟨n3, hn3, rfl⟩, hb7⟩
  have hs7 := hb7.size
  have HR7 := hide (HR6.out.below hb7)
  have HB7 := hide (HB6.out.trans (hb7.mono (by omega)))
  have HN3 := hide hn3
  have HV7 := hide (HV6.out.below hb7 (Nat.le_refl _))
  have C8 := hide (refEncode_any w6.heap.size _ (flipB bs) w7 HV7.out.batchAt (by omega) HM.out.flip.small)
  clear hn3 hb7 C7
  rw [show (if n3 = 0 then (⟨(frameOf (payload (flipB bs))).toArray⟩ : ByteArray) else ByteArray.empty) = encS (flipB bs) n3 from rfl]
  go_wp2_with fail
  refine C8.out.mono ?_
  rintro e w8 ⟨⟨n4, hn4, rfl⟩, hb8⟩
  obtain rfl := hn4.unique HN3.out
  rw [show (if n4 = 0 then (⟨(frameOf (payload (flipB bs))).toArray⟩ : ByteArray) else ByteArray.empty) = encS (flipB bs) n4 from rfl]
  have HR8 := hide (HR7.out.below hb8)
  have HB8 := hide (HB7.out.trans (hb8.mono (by omega)))
  have C9 := hide (whole_any w.heap.size w6.heap.size _ _ cv (flipB bs) rv w8 HR8.out (HV7.out.below hb8 (by omega)) HM.out.flip.series HM.out.flip.lists)
  clear hn4 hb8 C8 HN3
  generalize encS (flipB bs) n4 = s2 at *
  go_wp2_with fail
  refine C9.out.mono ?_
  rintro e w9 ⟨rfl, q9, rfl⟩
  have HB9 := hide (below_drewN HB8.out q9)
  clear C9
  go_wp2
  go_ret
  exact ⟨rfl, HB9.out⟩
end Go.Proofs.YtcidgfdiacehmaaDoor

/- A list of series that came in: what it is in memory. -/
namespace Go.Proofs.YtcidgfdiacehmaaDoor
open Go.RowKit Go.Lib Go.ChangeShapes Go.WideShapes

theorem cellsStr : Tryd.prog.cellsOf 9 = 1 := by kernel_rfl
theorem cellsI : Tryd.prog.cellsOf 3 = 1 := by kernel_rfl
theorem cellsW : Tryd.prog.cellsOf 54 = 1 := by kernel_rfl
theorem cellsLab : Tryd.prog.cellsOf 42 = 2 := by kernel_rfl
theorem cellsSam : Tryd.prog.cellsOf 56 = 2 := by kernel_rfl
theorem cellsSer : Tryd.prog.cellsOf 46 = 2 := by kernel_rfl
theorem cellsLs : Tryd.prog.cellsOf 43 = 1 := by kernel_rfl
theorem cellsSs : Tryd.prog.cellsOf 44 = 1 := by kernel_rfl
theorem bytesLab : Tryd.prog.bytesOf 42 = 32 := by kernel_rfl
theorem bytesSam : Tryd.prog.bytesOf 56 = 16 := by kernel_rfl
theorem bytesSer : Tryd.prog.bytesOf 46 = 48 := by kernel_rfl

/-- Nothing in it is too great. -/
def Light {H : Type} (t : TypeId) (d : DataW H) : Prop := ∀ n ∈ d.weights Tryd.prog t, n ≤ reachBytes
theorem weights_all {H : Type} {e : TypeId} {l : List (DataW H)} {d : DataW H} (hd : d ∈ l) : ∀ n ∈ d.weights Tryd.prog e, n ∈ DataW.weightsAll Tryd.prog e l := by
  induction l with
  | nil => cases hd
  | cons a r ih =>
    intro n hn
    rw [DataW.weightsAll]
    rcases List.mem_cons.1 hd with rfl | hd
    · exact List.mem_append_left _ hn
    · exact List.mem_append_right _ (ih hd n hn)
theorem Light.elem {H : Type} {t e : TypeId} {elems spare : List (DataW H)} (hu : Tryd.prog.underlying t = some (.slice e)) (h : Light t (.slice elems spare)) {d : DataW H} (hd : d ∈ elems) : Light e d := fun n hn => by
  apply h
  rw [DataW.weights, hu]
  exact List.mem_cons_of_mem _ (List.mem_append_left _ (weights_all hd n hn))
theorem Light.len {H : Type} {t e : TypeId} {elems spare : List (DataW H)} (hu : Tryd.prog.underlying t = some (.slice e)) (h : Light t (.slice elems spare)) : elems.length * Tryd.prog.bytesOf e ≤ reachBytes := by
  have h1 := h ((elems.length + spare.length) * Tryd.prog.bytesOf e) (by rw [DataW.weights, hu]; exact List.mem_cons_self ..)
  exact Nat.le_trans (Nat.mul_le_mul_right _ (by omega)) h1
theorem Light.pair {H : Type} {t : TypeId} {f0 f1 : Field} {d0 d1 : DataW H} (hu : Tryd.prog.underlying t = some (.struct #[f0, f1])) (h : Light t (.agg [d0, d1])) : Light f0.type d0 ∧ Light f1.type d1 := by
  have hw : (DataW.agg [d0, d1]).weights Tryd.prog t = d0.weights Tryd.prog f0.type ++ (d1.weights Tryd.prog f1.type ++ []) := by
    rw [DataW.weights, hu]; rfl
  refine ⟨fun n hn => h n ?_, fun n hn => h n ?_⟩
  · rw [hw]; exact List.mem_append_left _ hn
  · rw [hw]; exact List.mem_append_right _ (List.mem_append_left _ hn)

theorem in_add (b o n : Nat) : (⟨b, o, none⟩ : Addr).add n = ⟨b, o + n, none⟩ := by
  unfold Addr.add; split <;> simp_all
/-- A slice of structs of two cells. -/
theorem slice_pairs {H : Type} {enc : TypeId × Value → H} {W : World} {T e : TypeId} (hT : Tryd.prog.underlying T = some (.slice e)) (he : Tryd.prog.cellsOf e = 2) {α : Type} [Inhabited α] (R : α → Value → Value → Prop)
    (each : ∀ (n : Nat) (c0 c1 : Value) (y : DataW H × List MemPlace), DataW.trod enc Tryd.prog W 0 (fun _ => true) true n e [c0, c1] = some y → Light e y.1 → ∃ z : α, R z c0 c1)
    {fuel : Nat} {cs : List Value} {x : DataW H × List MemPlace} (h : DataW.trod enc Tryd.prog W 0 (fun _ => true) true fuel T cs = some x) (hw : Light T x.1) :
    ∃ (a : Option Addr) (cap : Nat) (l : List α), cs = [.slice a l.length cap] ∧ l.length ≤ cap ∧ l.length * Tryd.prog.bytesOf e ≤ reachBytes ∧
      (l = [] ∨ ∃ b o, a = some ⟨b, o, none⟩ ∧ b < W.heap.size ∧ ∀ i z, l[i]? = some z → ∃ c0 c1, W.cell? ⟨b, o + i * 2, none⟩ = some c0 ∧ W.cell? ⟨b, o + i * 2 + 1, none⟩ = some c1 ∧ R z c0 c1) := by
  rcases Go.Deep.open_slice hT h with ⟨hcs, hx⟩ | ⟨a, len, cap, m, n, D, Pl, hcs, hb, hl, hm, hmm, hx, hel⟩
  · exact ⟨none, 0, [], hcs, Nat.le_refl _, by simp, .inl rfl⟩
  · simp only [if_true] at hmm
    subst hmm
    have hd : x.1 = .slice ((List.range len).map D) ((List.range (m - len)).map fun j => D (len + j)) := congrArg Prod.fst hx
    rw [hd] at hw
    rw [he] at hel
    have hone : ∀ i, i < len → ∃ z : α, ∃ c0 c1, W.cell? (a.add (i * 2)) = some c0 ∧ W.cell? ((a.add (i * 2)).add 1) = some c1 ∧ R z c0 c1 := fun i hi => by
      obtain ⟨cs', h1, h2⟩ := hel i (by omega)
      obtain ⟨_, hlen, hcell⟩ := World.cells?_some h1
      match cs', hlen, hcell, h2 with
      | [c0, c1], _, hcell, h2 =>
        have q0 := hcell 0 (by omega)
        have q1 := hcell 1 (by omega)
        have z0 : (a.add (i * 2)).add 0 = a.add (i * 2) := by unfold Addr.add; simp
        rw [z0] at q0
        obtain ⟨z, hz⟩ := each n c0 c1 _ h2 (hw.elem hT (List.mem_map.2 ⟨i, List.mem_range.2 hi, rfl⟩))
        exact ⟨z, c0, c1, q0, q1, hz⟩
    obtain ⟨F, hF⟩ := Go.Deep.choose_lt hone
    have hlen : ((List.range len).map F).length = len := by simp
    refine ⟨some a, m, (List.range len).map F, by rw [hlen]; exact hcs, by omega, ?_, ?_⟩
    · have := hw.len hT
      rw [hlen]
      simpa using this
    · by_cases h0 : len = 0
      · subst h0; exact .inl rfl
      · obtain ⟨b, o, spot⟩ := a
        have hs : spot = none := by
          obtain ⟨c0, c1, h1, _⟩ := hF 0 (by omega)
          simpa [Addr.add] using World.cell?_spot h1
        subst hs
        have hb0 : b < W.heap.size := by
          obtain ⟨c0, c1, h1, _⟩ := hF 0 (by omega)
          exact World.block_lt_of_cell? W _ h1
        refine .inr ⟨b, o, rfl, hb0, fun i z hz => ?_⟩
        have hi : i < len := by have := (List.getElem?_eq_some_iff.1 hz).1; simpa using this
        have e : z = F i := by
          rw [List.getElem?_map, List.getElem?_range hi] at hz
          exact (Option.some.inj hz).symm
        subst e
        obtain ⟨c0, c1, h1, h2, h3⟩ := hF i hi
        rw [in_add] at h1 h2
        rw [in_add] at h2
        exact ⟨c0, c1, h1, h2, h3⟩

theorem lab_in {H : Type} {enc : TypeId × Value → H} {W : World} (n : Nat) (c0 c1 : Value) (y : DataW H × List MemPlace) (h : DataW.trod enc Tryd.prog W 0 (fun _ => true) true n 42 [c0, c1] = some y) (_ : Light 42 y.1) : ∃ z : Lab, c0 = .string z.1 ∧ c1 = .string z.2 := by
  obtain ⟨y0, y1, n, rfl, hl, h0, h1⟩ := trod_struct2 Tryd.underlying42 h
  simp only [cellsStr] at h0 h1
  obtain ⟨s0, e0, _, _⟩ := DataW.trod_string Tryd.underlying9 h0
  obtain ⟨s1, e1, _, _⟩ := DataW.trod_string Tryd.underlying9 h1
  simp at e0 e1
  exact ⟨(s0, s1), e0, e1⟩
theorem in_i64 {n : Int} (h : (Lit.int .i64 n).wf = true) : -9223372036854775808 ≤ n ∧ n ≤ 9223372036854775807 := by
  simp [Lit.wf, IntKind.min, IntKind.max, IntKind.signed, IntKind.bits] at h
  omega
theorem in_u64 {n : Int} (h : (Lit.int .u64 n).wf = true) : 0 ≤ n ∧ n ≤ 18446744073709551615 := by
  simp [Lit.wf, IntKind.min, IntKind.max, IntKind.signed, IntKind.bits] at h
  omega
theorem sam_in {H : Type} {enc : TypeId × Value → H} {W : World} (n : Nat) (c0 c1 : Value) (y : DataW H × List MemPlace) (h : DataW.trod enc Tryd.prog W 0 (fun _ => true) true n 56 [c0, c1] = some y) (_ : Light 56 y.1) :
    ∃ z : Int × Nat, c0 = .int .i64 z.1 ∧ c1 = .int .u64 (z.2 : Int) ∧ -9223372036854775808 ≤ z.1 ∧ z.1 ≤ 9223372036854775807 ∧ z.2 ≤ 18446744073709551615 := by
  obtain ⟨y0, y1, n, rfl, hl, h0, h1⟩ := trod_struct2 Tryd.underlying56 h
  simp only [cellsI, cellsW] at h0 h1
  obtain ⟨m0, e0, _, w0⟩ := DataW.trod_int Tryd.underlying3 h0
  obtain ⟨m1, e1, _, w1⟩ := DataW.trod_int Tryd.underlying54 h1
  simp at e0 e1
  have b0 := in_i64 w0
  have b1 := in_u64 w1
  exact ⟨(m0, m1.toNat), e0, by rw [e1]; show Value.int .u64 m1 = .int .u64 (m1.toNat : Int); rw [Int.toNat_of_nonneg b1.1], b0.1, b0.2, by show m1.toNat ≤ _; omega⟩
/-- A series that came in. -/
def SerIn (W : World) (s : Ser) (c0 c1 : Value) : Prop := LabelsAt W W.heap.size c0 s.1 ∧ SamplesAt W W.heap.size c1 s.2 ∧ s.1.length * 32 ≤ reachBytes ∧ s.2.length * 16 ≤ reachBytes
theorem ser_in {H : Type} {enc : TypeId × Value → H} {W : World} (n : Nat) (c0 c1 : Value) (y : DataW H × List MemPlace) (h : DataW.trod enc Tryd.prog W 0 (fun _ => true) true n 46 [c0, c1] = some y) (hw : Light 46 y.1) : ∃ z : Ser, SerIn W z c0 c1 := by
  obtain ⟨y0, y1, n, rfl, hl, h0, h1⟩ := trod_struct2 Tryd.underlying46 h
  obtain ⟨l0, l1⟩ := hw.pair Tryd.underlying46
  simp only [cellsLs, cellsSs] at h0 h1 l0 l1
  obtain ⟨a, cap, l, e0, hc, hby, hcell⟩ := slice_pairs Tryd.underlying43 cellsLab (fun (z : Lab) c0 c1 => c0 = .string z.1 ∧ c1 = .string z.2) lab_in h0 l0
  obtain ⟨b, cap2, m, e1, hc2, hby2, hcell2⟩ := slice_pairs Tryd.underlying44 cellsSam (fun (z : Int × Nat) c0 c1 => c0 = .int .i64 z.1 ∧ c1 = .int .u64 (z.2 : Int) ∧ -9223372036854775808 ≤ z.1 ∧ z.1 ≤ 9223372036854775807 ∧ z.2 ≤ 18446744073709551615) sam_in h1 l1
  rw [bytesLab] at hby
  rw [bytesSam] at hby2
  simp at e0 e1
  subst e0 e1
  refine ⟨(l, m), ⟨a, cap, rfl, hc, ?_⟩, ⟨b, cap2, rfl, hc2, fun x hx => ?_, ?_⟩, hby, hby2⟩
  · rcases hcell with h | ⟨b, o, ha, hb, hh⟩
    · exact .inl h
    · refine .inr ⟨b, o, ha, hb, fun i x hx => ?_⟩
      obtain ⟨c0, c1, h1, h2, rfl, rfl⟩ := hh i x hx
      exact ⟨h1, h2⟩
  · rcases hcell2 with h | ⟨b, o, ha, hb, hh⟩
    · rw [h] at hx; cases hx
    · obtain ⟨i, hi, rfl⟩ := List.mem_iff_getElem.1 hx
      obtain ⟨c0, c1, _, _, _, _, h3⟩ := hh i _ (List.getElem?_eq_getElem hi)
      exact h3
  · rcases hcell2 with h | ⟨b, o, ha, hb, hh⟩
    · exact .inl h
    · refine .inr ⟨b, o, ha, hb, fun i x hx => ?_⟩
      obtain ⟨c0, c1, h1, h2, rfl, rfl, _⟩ := hh i x hx
      exact ⟨h1, h2⟩
/-- A list of series that came in. -/
theorem batch_in {H : Type} {enc : TypeId × Value → H} {W : World} {a0 : Option Addr} {len0 cap0 : Nat} {d : DataW H} {ps : List MemPlace} (h : DataW.Trod enc Tryd.prog W 0 (fun _ => true) true 22 (.slice a0 len0 cap0) d ps) (hw : Light 22 d) :
    ∃ bs : List Ser, BatchAt W W.heap.size (.slice a0 len0 cap0) bs ∧ bs.length * 48 ≤ reachBytes ∧ ∀ s ∈ bs, s.1.length * 32 ≤ reachBytes ∧ s.2.length * 16 ≤ reachBytes := by
  obtain ⟨fuel, hf⟩ := h
  have hf' : DataW.trod enc Tryd.prog W 0 (fun _ => true) true fuel 22 [.slice a0 len0 cap0] = some (d, ps) := hf
  obtain ⟨a, cap, l, e0, hc, hby, hcell⟩ := slice_pairs Tryd.underlying22 cellsSer (SerIn W) ser_in hf' hw
  rw [bytesSer] at hby
  simp only [List.cons.injEq, and_true] at e0
  rw [e0]
  refine ⟨l, ⟨a, cap, rfl, hc, ?_⟩, hby, fun s hs => ?_⟩
  · rcases hcell with h | ⟨b, o, ha, hb, hh⟩
    · exact .inl h
    · refine .inr ⟨b, o, ha, hb, fun i x hx => ?_⟩
      obtain ⟨c0, c1, h1, h2, h3, h4, _⟩ := hh i x hx
      exact ⟨c0, c1, h1, h2, h3, h4⟩
  · rcases hcell with h | ⟨b, o, ha, hb, hh⟩
    · rw [h] at hs; cases hs
    · obtain ⟨i, hi, rfl⟩ := List.mem_iff_getElem.1 hs
      obtain ⟨c0, c1, _, _, _, _, h3⟩ := hh i _ (List.getElem?_eq_getElem hi)
      exact h3
theorem light_of {H : Type} {ts : List TypeId} {ds : List (DataW H)} (h : (DataW.weightsEach Tryd.prog ts ds).all (· ≤ reachBytes) = true) {j : Nat} {t : TypeId} {d : DataW H} (ht : ts[j]? = some t) (hd : ds[j]? = some d) : Light t d := fun n hn => by
  have := List.all_eq_true.1 h n (DataW.weights_mem_each ht hd n hn)
  simpa using this
end Go.Proofs.YtcidgfdiacehmaaDoor

/- 'choirlaw.Codes', for every list of series: Encode answers the document's frame or error, byte by byte, and what is handed in stays. The first form's statement and its card: no condition beside the row's own. -/
namespace Go.Proofs.YtcidgfdiacehmaaDoor
open Go.RowKit Go.Lib Go.ChangeShapes Go.WideShapes Go.ChangeAt

theorem Tryd.serReads : Tryd.prog.readableRec 22 = true := by kernel_rfl
theorem Tryd.serType : 22 < Tryd.prog.types.size := of_decide_eq_true (by kernel_rfl)
theorem mid_of {bs : List Ser} (h1 : bs.length * 48 ≤ reachBytes) (h2 : ∀ s ∈ bs, s.1.length * 32 ≤ reachBytes ∧ s.2.length * 16 ≤ reachBytes) : Mid bs := by
  have hr := reachBytes_lt
  refine ⟨by omega, fun s hs => ?_⟩
  have := h2 s hs
  omega
set_option maxRecDepth 100000 in
/-- What the walk gives, for every argument. -/
theorem codes_contract (H : Type) (enc : TypeId × Value → H) (W : World) (base : Nat) (args : Array Value) (ds gs : List (DataW H)) (before : List MemPlace)
    (hval : ∀ (j : Nat) t v, Tryd.f3.params[j]? = some t → args[j]? = some v → Value.okWide Tryd.prog W .any base t v)
    (hW : DataW.Whole enc Tryd.prog Tryd.f3.params.toList Rows.codesSpec.vars false W args.toList ds gs before)
    (hz : (DataW.weightsEach Tryd.prog (Tryd.f3.params.toList ++ []) (ds ++ gs)).all (· ≤ reachBytes) = true) (hL : laidMetH Tryd.prog Rows.codesRow.laid W) :
    Calls Tryd.prog 3 args W fun e W' => ∃ v, e = .returned v ∧ Rows.codesSpec.post enc Tryd.prog Tryd.f3 false true false false W args v W' := by
  have hW' := hW
  obtain ⟨p, q, hA0, hV, rfl, hfz, hnd⟩ := hW
  have hA : DataW.TrodAll enc Tryd.prog W 0 (fun _ => true) true Tryd.f3.params.toList args.toList ds p := hA0
  rw [Tryd.params3] at hA hval hz
  obtain ⟨v0, vs0, d0, ds0, p0, q0, hargs, rfl, rfl, h0, r0⟩ := trodAll_cons hA
  obtain ⟨rfl, rfl, rfl⟩ := trodAll_nil r0
  obtain rfl : args = #[v0] := by cases args; simp_all
  obtain ⟨rfl, rfl⟩ := trodVars_none hV
  obtain ⟨a0, len, cap, rfl⟩ := okWide_slice Tryd.underlying22 (hval 0 22 v0 rfl rfl)
  obtain ⟨bs, hS, h1, h2⟩ := batch_in h0 (light_of hz (j := 0) rfl rfl)
  have hlt : ∀ x ∈ p0, x.block < W.heap.size := fun x hx => hW'.lt x (by simp [hx])
  refine (codes_any _ bs W hS (mid_of h1 h2) (tabs_of hL)).mono fun e W' ⟨he, hB⟩ => ?_
  subst he
  refine ⟨_, rfl, _, _, _, [], p0, [], hW', ?_, ?_, ?_, hB.frame _, fun h => by cases h⟩
  · exact trodAll_mk1 (shut_bool Tryd.underlying4 true)
  · rw [Tryd.params3]
    exact trodAll_mk1 (Below.trod Tryd.laidOut Tryd.serReads Tryd.serType h0 hB hlt)
  · exact rfl
theorem codes_laid (os : Os) : laidMet Tryd.prog Rows.codesRow.laid (({ World.holding Tryd.prog os ⟨#[], #[], []⟩ with heap := layTabs (World.holding Tryd.prog os ⟨#[], #[], []⟩).heap } : World).forCall (fun _ _ => 0) ⟨#[], #[.slice none 0 0], []⟩).memory :=
  laidMet_of_run' 8 (by kernel_rfl) (by kernel_rfl)
theorem codes_reads (os : Os) {H : Type} (enc : TypeId × Value → H) : ∃ places, DataW.whole enc Tryd.prog (({ World.holding Tryd.prog os ⟨#[], #[], []⟩ with heap := layTabs (World.holding Tryd.prog os ⟨#[], #[], []⟩).heap } : World).forCall (fun _ _ => 0) ⟨#[], #[.slice none 0 0], []⟩).memory Tryd.f3.params.toList Rows.codesSpec.vars false (#[.slice none 0 0] : Array Value).toList 8 = some ([.nil], [], places) :=
  ⟨[], by kernel_rfl⟩

set_option maxRecDepth 100000 in
theorem codes_lifted (os : Os) (started : os.Started) (H : Type) (enc : TypeId × Value → H) (F : Stop.Interp) :
    ReturnsInHanded {} Tryd.checked os 3 .any ((OpenSpec.ofChange Rows.codesSpec).preRow enc Tryd.prog Tryd.f3 Rows.codesRow.domain false Rows.codesRow.laid) (((OpenSpec.ofChange Rows.codesSpec).at F).post enc Tryd.prog Tryd.f3 false true false false) := by
  obtain ⟨places, hx⟩ := codes_reads os enc
  refine returnsInHanded_of_row (C := Tryd.checked) (s := OpenSpec.ofChange Rows.codesSpec) Tryd.own started (by kernel_rfl) Tryd.func3
    (witness_row_at (enc := enc) (C := Tryd.checked) false { World.holding Tryd.prog os ⟨#[], #[], []⟩ with heap := layTabs (World.holding Tryd.prog os ⟨#[], #[], []⟩).heap } #[.slice none 0 0] rfl (by kernel_rfl) (by kernel_rfl) (by kernel_rfl)
      (OpenSpec.preRow_of_cond 8 hx (by kernel_rfl) (fun k hk => by cases hk) (by kernel_rfl) (codes_laid os))) ?_
  intro W base args ds gs before hval hW _ _ hz hL _ _
  exact codes_contract H enc W base args ds gs before hval hW hz hL

theorem codes_said : Rows.CodesSaid :=
  OpenClaim.holds_of_cond 3 Tryd.f3 rfl rfl rfl rfl rfl rfl rfl ⟨rfl, rfl, rfl, rfl, rfl⟩ rfl rfl rfl rfl rfl (by kernel_rfl) Tryd.func3 (by kernel_rfl)
    (of_decide_eq_true (by kernel_rfl)) (by unfold Func.isWrapper; first | (rw [if_pos (by decide +kernel)]; kernel_rfl) | (rw [if_neg (by decide +kernel)]; exact ⟨rfl, rfl⟩))
    (fun os started H enc _ F => by rw [OpenClaim.pre_eq_preRow]; exact codes_lifted os started H enc F)
theorem codes_plain (f : FuncId) (fn : Func) (hf : Tryd.pinned.checked.prog.funcNamed Rows.codesRow.func = some f) (hfn : Tryd.pinned.checked.prog.funcs[f]? = some fn) :
    false = Tryd.pinned.checked.prog.looks [] ∧ ∀ (j : Nat) t, fn.params[j]? = some t → Tryd.pinned.checked.prog.wantsStandIn t = false := by
  obtain rfl : f = 3 := Option.some.inj ((show Tryd.prog.funcNamed Rows.codesRow.func = some 3 by kernel_rfl).symm.trans hf) |>.symm
  obtain rfl : fn = Tryd.f3 := (Option.some.inj (Tryd.func3.symm.trans hfn)).symm
  refine ⟨by kernel_rfl, fun j t ht => ?_⟩
  rw [Tryd.params3] at ht
  have hm := Array.mem_of_getElem? ht
  simp at hm
  subst hm
  exact (show Tryd.prog.wantsStandIn 22 = false by kernel_rfl)
/-- The card. -/
theorem codes_card : Rows.CodesCardSaid :=
  Claim7.holds_tied_plain_at .later [] _ _ _ _ codes_said (fun _ h => by cases h) (by kernel_rfl) (fun _ h => by cases h) codes_row_tie rfl ⟨rfl, rfl⟩ (by kernel_rfl) rfl codes_plain (by kernel_rfl)
end Go.Proofs.YtcidgfdiacehmaaDoor

/- 'choirkeep.Lattice', for any three lists of raw samples: joins do not hang on order, grouping and how often; with bytes and without it is the same. The first form's statement and its card: no condition beside the row's own. -/
import Derived.Test.YtamcclcbmenjdaaGreatDoorLatticeG3
import Derived.Test.YtamcclcbmenjdaaGreatDoorLatticeG1
import Derived.Laws.CopyRow
import Derived.Laws.MakeOwn
import Derived.Lib.SlBuf
/- A heap, pure: what container/heap's loops keep. -/
namespace Go.Proofs.YtamcclcbmenjdaaGreatDoor.Hp

variable {α : Type}
/-- f with the places i and j turned round. -/
def swp (f : Nat → α) (i j : Nat) : Nat → α := fun k => if k = i then f j else if k = j then f i else f k
def IsHeap (le : α → α → Prop) (f : Nat → α) (n : Nat) : Prop := ∀ k, 0 < k → k < n → le (f ((k - 1) / 2)) (f k)
structure UpInv (le : α → α → Prop) (f : Nat → α) (n j : Nat) : Prop where
  rest : ∀ k, 0 < k → k < n → k ≠ j → le (f ((k - 1) / 2)) (f k)
  over : 0 < j → ∀ k, 0 < k → k < n → (k - 1) / 2 = j → le (f ((j - 1) / 2)) (f k)
structure DownInv (le : α → α → Prop) (f : Nat → α) (n i : Nat) : Prop where
  rest : ∀ k, 0 < k → k < n → (k - 1) / 2 ≠ i → le (f ((k - 1) / 2)) (f k)
  over : 0 < i → ∀ k, 0 < k → k < n → (k - 1) / 2 = i → le (f ((i - 1) / 2)) (f k)

theorem up_start {le : α → α → Prop} {f g : Nat → α} {n : Nat} (h : IsHeap le f n) (hg : ∀ k, k < n → g k = f k) : UpInv le g (n + 1) n := by
  refine ⟨fun k h0 hk hne => ?_, fun h0 k hk0 hk he => by omega⟩
  rw [hg _ (by omega), hg _ (by omega)]; exact h k h0 (by omega)
theorem up_step {le : α → α → Prop} (tot : ∀ a b, le a b ∨ le b a) (tr : ∀ {a b c}, le a b → le b c → le a c) {f : Nat → α} {n j : Nat} (h : UpInv le f n j) (hj : j < n) (h0 : 0 < j) (hlt : ¬ le (f ((j - 1) / 2)) (f j)) : UpInv le (swp f ((j - 1) / 2) j) n ((j - 1) / 2) := by
  have hle : le (f j) (f ((j - 1) / 2)) := (tot _ _).resolve_right hlt
  refine ⟨fun k hk0 hk hne => ?_, fun hp0 k hk0 hk he => ?_⟩
  · unfold swp
    by_cases e1 : k = j
    · subst e1
      rw [if_pos rfl, if_neg (by omega), if_pos rfl]; exact hle
    · rw [if_neg hne, if_neg e1]
      by_cases e2 : (k - 1) / 2 = (j - 1) / 2
      · rw [if_pos e2]
        have := h.rest k hk0 hk e1
        rw [e2] at this
        exact tr hle this
      · rw [if_neg e2]
        by_cases e3 : (k - 1) / 2 = j
        · rw [if_pos e3]; exact h.over h0 k hk0 hk e3
        · rw [if_neg e3]; exact h.rest k hk0 hk e1
  · unfold swp
    rw [if_neg (by omega), if_neg (by omega)]
    have hpp := h.rest ((j - 1) / 2) hp0 (by omega) (by omega)
    rw [if_neg (by omega)]
    by_cases e1 : k = j
    · rw [if_pos e1]; exact hpp
    · rw [if_neg e1]
      have := h.rest k hk0 hk e1
      rw [he] at this
      exact tr hpp this
theorem up_done {le : α → α → Prop} {f : Nat → α} {n j : Nat} (h : UpInv le f n j) (hd : j = 0 ∨ le (f ((j - 1) / 2)) (f j)) : IsHeap le f n := fun k h0 hk => by
  by_cases e : k = j
  · subst e
    rcases hd with hd | hd
    · omega
    · exact hd
  · exact h.rest k h0 hk e
theorem down_start {le : α → α → Prop} {f g : Nat → α} {n : Nat} (h : IsHeap le f (n + 1)) (hg : ∀ k, 0 < k → k < n → g k = f k) : DownInv le g n 0 := by
  refine ⟨fun k h0 hk hne => ?_, fun h0 => by omega⟩
  rw [hg _ (by omega) (by omega), hg _ (by omega) (by omega)]; exact h k h0 (by omega)
theorem down_step {le : α → α → Prop} (tot : ∀ a b, le a b ∨ le b a) {f : Nat → α} {n i c : Nat} (h : DownInv le f n i) (hc : c = 2 * i + 1 ∨ c = 2 * i + 2) (hcn : c < n) (hmin : ∀ d, d < n → (d = 2 * i + 1 ∨ d = 2 * i + 2) → le (f c) (f d)) (hlt : ¬ le (f i) (f c)) : DownInv le (swp f i c) n c := by
  have hle : le (f c) (f i) := (tot _ _).resolve_right hlt
  refine ⟨fun k hk0 hk hne => ?_, fun hp0 k hk0 hk he => ?_⟩
  · unfold swp
    by_cases e1 : (k - 1) / 2 = i
    · rw [if_pos e1]
      by_cases e2 : k = c
      · subst e2
        rw [if_neg (by omega), if_pos rfl]; exact hle
      · rw [if_neg (by omega), if_neg e2]
        exact hmin k hk (by omega)
    · rw [if_neg e1, if_neg (by omega)]
      by_cases e2 : k = i
      · subst e2
        rw [if_pos rfl]
        exact h.over hk0 c (by omega) hcn (by omega)
      · rw [if_neg e2]
        by_cases e3 : k = c
        · omega
        · rw [if_neg e3]; exact h.rest k hk0 hk e1
  · unfold swp
    have e : (c - 1) / 2 = i := by omega
    rw [if_pos e, if_neg (by omega), if_neg (by omega)]
    have := h.rest k hk0 hk (by omega)
    rw [he] at this; exact this
theorem down_done {le : α → α → Prop} {f : Nat → α} {n i : Nat} (h : DownInv le f n i) (hd : ∀ k, k < n → (k = 2 * i + 1 ∨ k = 2 * i + 2) → le (f i) (f k)) : IsHeap le f n := fun k h0 hk => by
  by_cases e : (k - 1) / 2 = i
  · rw [e]; exact hd k hk (by omega)
  · exact h.rest k h0 hk e
theorem heap_min {le : α → α → Prop} (tot : ∀ a b, le a b ∨ le b a) (tr : ∀ {a b c}, le a b → le b c → le a c) {f : Nat → α} {n : Nat} (h : IsHeap le f n) : ∀ k, k < n → le (f 0) (f k) := by
  intro k
  induction k using Nat.strongRecOn with
  | _ k ih =>
    intro hk
    by_cases e : k = 0
    · subst e; exact (tot _ _).elim id id
    · exact tr (ih ((k - 1) / 2) (by omega) (by omega)) (h k (by omega) hk)
/-- A list with two places turned round: it has the same members, as often. -/
theorem set_swap_perm (l : List α) (i j : Nat) (a b : α) (ha : l[i]? = some a) (hb : l[j]? = some b) : ((l.set i b).set j a).Perm l := by
  obtain ⟨hi, e1⟩ := List.getElem?_eq_some_iff.1 ha
  obtain ⟨hj, e2⟩ := List.getElem?_eq_some_iff.1 hb
  have h := Array.swap_perm (xs := l.toArray) (i := i) (j := j) (by simpa using hi) (by simpa using hj)
  have e : (l.toArray.swap i j (by simpa using hi) (by simpa using hj)).toList = (l.set i b).set j a := by
    rw [Array.swap_def]
    simp [e1, e2]
  have h2 := h.toList
  rw [e] at h2
  exact h2
end Go.Proofs.YtamcclcbmenjdaaGreatDoor.Hp

/- A block that is known whole; rows of pairs; copy of pairs. -/
namespace Go.Proofs.YtamcclcbmenjdaaGreatDoor
open Go.RowKit Go.Lib

/-- Block g holds just these cells, and may be written. -/
def Blk (w : World) (g T : Nat) (xs : List Value) : Prop := w.heap[g]? = some (.cells xs.toArray T (0, 0))
theorem Blk.lt {w : World} {g T : Nat} {xs : List Value} (h : Blk w g T xs) : g < w.heap.size := (Array.getElem?_eq_some_iff.1 h).1
theorem Blk.cell {w : World} {g T : Nat} {xs : List Value} (h : Blk w g T xs) {i : Nat} {v : Value} (hi : xs[i]? = some v) : w.cell? ⟨g, i, none⟩ = some v := by
  unfold Blk at h
  simp only [World.cell?, h]
  simpa using hi
theorem Blk.frozen {w : World} {g T : Nat} {xs : List Value} (h : Blk w g T xs) (i : Nat) : w.frozen? ⟨g, i, none⟩ = false := by
  unfold Blk at h
  simp [World.frozen?, h]
theorem Blk.kept {w w' : World} {g T : Nat} {xs : List Value} (h : Blk w g T xs) (hk : w'.heap[g]? = w.heap[g]?) : Blk w' g T xs := hk.trans h
theorem Blk.below {w w' : World} {g T B : Nat} {xs : List Value} (h : Blk w g T xs) (hb : Below B w w') (hg : g < B) : Blk w' g T xs := h.kept (hb.block g hg)
theorem Blk.alloc {w : World} {g T : Nat} {xs : List Value} (h : Blk w g T xs) (o : Obj) : Blk (w.alloc o) g T xs := h.kept (heap_alloc_old w o h.lt)
theorem Blk.drewN {w : World} {g T : Nat} {xs : List Value} (h : Blk w g T xs) (q : Nat) : Blk (w.drewN q) g T xs := h.kept ((below_drewN (Below.refl w.heap.size w) q).block g h.lt)
theorem Blk.other {w : World} {g T k i : Nat} {xs : List Value} (h : Blk w g T xs) (hk : g ≠ k) (v : Value) : Blk (w.setCell ⟨k, i, none⟩ v) g T xs := h.kept (Below.heap_setCell w ⟨k, i, none⟩ v g hk)
theorem Blk.set {w : World} {g T : Nat} {xs : List Value} (h : Blk w g T xs) (i : Nat) (v : Value) : Blk (w.setCell ⟨g, i, none⟩ v) g T (xs.set i v) := by
  rw [setCell_eq_setRow w g i xs.toArray T (0, 0) v h, List.setIfInBounds_toArray]
  have := setRow_heap w g xs.toArray (xs.toArray.setIfInBounds i v) T (0, 0) h
  rw [List.setIfInBounds_toArray] at this
  exact this
theorem Blk.new (w : World) (T : Nat) (xs : List Value) : Blk (w.alloc (.cells xs.toArray T)) w.heap.size T xs := heap_alloc_new w _

/- Rows of pairs. -/
theorem serCells_length (l : List (Value × Value)) : (serCells l).length = 2 * l.length := by
  induction l with
  | nil => rfl
  | cons x r ih => simp only [serCells, List.flatMap_cons, List.length_append, List.length_cons, List.length_nil] at ih ⊢; omega
theorem serCells_get {l : List (Value × Value)} {i : Nat} {p : Value × Value} (h : l[i]? = some p) : (serCells l)[i * 2]? = some p.1 ∧ (serCells l)[i * 2 + 1]? = some p.2 :=
  pair_get (fun x : Value × Value => x.1) (fun x => x.2) l i p h
theorem serCells_set1 (v : Value) : ∀ (l : List (Value × Value)) (i : Nat) (p : Value × Value), l[i]? = some p → (serCells l).set (i * 2) v = serCells (l.set i (v, p.2))
  | [], _, _, h => by simp at h
  | a :: r, 0, p, h => by simp at h; subst h; simp [serCells]
  | a :: r, i + 1, p, h => by
    simp only [List.getElem?_cons_succ] at h
    have ih := serCells_set1 v r i p h
    rw [show (i + 1) * 2 = i * 2 + 1 + 1 by omega]
    show (a.1 :: a.2 :: serCells r).set (i * 2 + 1 + 1) v = a.1 :: a.2 :: serCells (r.set i (v, p.2))
    rw [List.set_cons_succ, List.set_cons_succ, ih]
theorem serCells_set2 (v : Value) : ∀ (l : List (Value × Value)) (i : Nat) (p : Value × Value), l[i]? = some p → (serCells l).set (i * 2 + 1) v = serCells (l.set i (p.1, v))
  | [], _, _, h => by simp at h
  | a :: r, 0, p, h => by simp at h; subst h; simp [serCells]
  | a :: r, i + 1, p, h => by
    simp only [List.getElem?_cons_succ] at h
    have ih := serCells_set2 v r i p h
    rw [show (i + 1) * 2 + 1 = i * 2 + 1 + 1 + 1 by omega]
    show (a.1 :: a.2 :: serCells r).set (i * 2 + 1 + 1 + 1) v = a.1 :: a.2 :: serCells (r.set i (p.1, v))
    rw [List.set_cons_succ, List.set_cons_succ, ih]
theorem serCells_set {w : World} {g T : Nat} {l : List (Value × Value)} (h : Blk w g T (serCells l)) (i : Nat) {p : Value × Value} (hp : l[i]? = some p) (v : Value) :
    Blk (w.setCell ⟨g, i * 2, none⟩ v) g T (serCells (l.set i (v, p.2))) ∧ Blk (w.setCell ⟨g, i * 2 + 1, none⟩ v) g T (serCells (l.set i (p.1, v))) := by
  rw [← serCells_set1 v l i p hp, ← serCells_set2 v l i p hp]
  exact ⟨h.set _ _, h.set _ _⟩
theorem serCells_app (a b : List (Value × Value)) : serCells (a ++ b) = serCells a ++ serCells b := by simp [serCells]
theorem serCells_rep (z : Value × Value) : ∀ n, serCells (List.replicate n z) = (madeCells #[z.1, z.2] (n * 2)).toList
  | 0 => by simp [serCells, madeCells]
  | n + 1 => by
    rw [List.replicate_succ', serCells_app, serCells_rep z n]
    apply List.ext_getElem?
    intro i
    simp only [madeCells, Array.toList_map, Array.toList_range, serCells]
    by_cases h : i < n * 2
    · rw [List.getElem?_append_left (by simpa using h)]
      simp [h, show i < (n + 1) * 2 by omega]
    · rw [List.getElem?_append_right (by simpa using h)]
      by_cases h2 : i < (n + 1) * 2
      · have e : i = n * 2 ∨ i = n * 2 + 1 := by omega
        rcases e with rfl | rfl
        · simp [show n * 2 < (n + 1) * 2 by omega]
        · simp [show n * 2 + 1 < (n + 1) * 2 by omega, Nat.add_mod]
      · simp [h2, show ¬ i - n * 2 < 2 by omega]
theorem serCells_rep_arr (z : Value × Value) (n : Nat) : (serCells (List.replicate n z)).toArray = madeCells #[z.1, z.2] (n * 2) := by rw [serCells_rep, Array.toArray_toList]
/-- A list with eight places more. -/
def roomP (ps : List (Value × Value)) (x z : Value × Value) (j : Nat) : List (Value × Value) := ps ++ (List.replicate j x ++ List.replicate (8 - j) z)
theorem roomP_length (ps : List (Value × Value)) (x z : Value × Value) (j : Nat) (h : j ≤ 8) : (roomP ps x z j).length = ps.length + 8 := by simp [roomP]; omega
theorem roomP_get (ps : List (Value × Value)) (x z : Value × Value) (j : Nat) (h : j < 8) : (roomP ps x z j)[ps.length + j]? = some z := by
  unfold roomP
  rw [List.getElem?_append_right (by omega), List.getElem?_append_right (by simp), List.length_replicate, List.getElem?_replicate, if_pos (by omega)]
theorem roomP_set (ps : List (Value × Value)) (x z : Value × Value) (j : Nat) (h : j < 8) : (roomP ps x z j).set (ps.length + j) x = roomP ps x z (j + 1) := by
  unfold roomP
  rw [List.set_append_right _ _ (by omega), List.set_append_right _ _ (by simp), show 8 - j = (8 - (j + 1)) + 1 by omega, List.replicate_succ]
  simp [List.replicate_succ']
theorem roomP_front (ps : List (Value × Value)) (x z : Value × Value) (j : Nat) {i : Nat} {p : Value × Value} (h : ps[i]? = some p) : (roomP ps x z j)[i]? = some p := by
  unfold roomP
  rw [List.getElem?_append_left (List.getElem?_eq_some_iff.1 h).1]; exact h
theorem roomP_back (ps : List (Value × Value)) (x z : Value × Value) {j : Nat} (h : j < 8) : (roomP ps x z 8)[ps.length + j]? = some x := by
  unfold roomP
  rw [List.getElem?_append_right (by omega), List.getElem?_append_left (by simp; omega), List.getElem?_replicate, if_pos (by omega)]

/-- copy of elements of any number of cells. -/
theorem run_copy_rows {P : Program} (w : World) (dT sT ty elem size : Nat) (g o dLen dCap : Nat) (a : Addr) (sLen sCap : Nat) (cur : Array Value) (t : TypeId) (cs : List Value)
    (hu : P.underlying dT = some (.slice elem)) (hs : (P.info? elem).map (·.size) = some size)
    (hg : w.heap[g]? = some (.cells cur t (0, 0))) (hn : cs.length = Nat.min sLen dLen * size)
    (hsrc : ∀ j v, cs[j]? = some v → w.cell? (a.add j) = some v) (hfit : o + cs.length ≤ cur.size) (h1 : ∀ v ∈ cs, v.oneCell' = true) :
    (Builtin.copy_ #[dT, sT] ty #[.slice (some ⟨g, o, none⟩) dLen dCap, .slice (some a) sLen sCap]).run P w =
      .ok (goInt (Nat.min sLen dLen)) (w.setRow g (cur.toList.take o ++ cs ++ cur.toList.drop (o + cs.length)).toArray) := by
  have hl := run_loadCells_list (P := P) w a cs hsrc
  have hst := run_storeCells_at P g o t cs 0 cur w hg (by simpa using hfit) h1
  cases hq : P.info? elem with
  | none => simp [hq] at hs
  | some i =>
    have hi : i.size = size := by simpa [hq] using hs
    simp [Builtin.copy_, run_underlying hu, Builtin.lenOf, Builtin.firstCells, sizeOf, typeInfo, hq, hi, ← hn, hl, hst]
theorem below_setRow (w : World) (g B : Nat) (cur : Array Value) (hg : B ≤ g) : Below B w (w.setRow g cur) := by
  refine ⟨rfl, rfl, rfl, by simp [World.setRow], fun k hk => ?_⟩
  unfold World.setRow
  simp only [Array.getElem?_modify]
  rw [if_neg (by omega)]

def labP (l : List Lab) : List (Value × Value) := l.map fun x => (.string x.1, .string x.2)
def samP (l : List (Int × Nat)) : List (Value × Value) := l.map fun x => (.int .i64 x.1, .int .u64 x.2)
theorem labP_cells (l : List Lab) : serCells (labP l) = labCells l := by simp [serCells, labP, labCells, List.flatMap_map]
theorem samP_cells (l : List (Int × Nat)) : serCells (samP l) = samCells l := by simp [serCells, samP, samCells, List.flatMap_map]
def bey : ByteArray := ⟨#[98, 101, 121, 111, 110, 100]⟩
/-- The slice is nil. -/
def isNil : Value → Bool
  | .slice none _ _ => true
  | _ => false
theorem addr_block (a : Addr) (j : Nat) : (a.add j).block = a.block := by unfold Addr.add; split <;> rfl
theorem getElem?_snoc {α : Type} {l : List α} {a x : α} {i : Nat} (h : (l ++ [a])[i]? = some x) : (i < l.length ∧ l[i]? = some x) ∨ (i = l.length ∧ x = a) := by
  by_cases hi : i < l.length
  · rw [List.getElem?_append_left hi] at h; exact .inl ⟨hi, h⟩
  · have h2 : i < l.length + 1 := by have := (List.getElem?_eq_some_iff.1 h).1; simpa using this
    obtain rfl : i = l.length := by omega
    rw [List.getElem?_append_right (Nat.le_refl _), Nat.sub_self] at h
    exact .inr ⟨rfl, by simpa using h.symm⟩
end Go.Proofs.YtamcclcbmenjdaaGreatDoor

/- Check of any number of lists. -/
namespace Go.Proofs.YtamcclcbmenjdaaGreatDoor
open Go.RowKit Go.Lib

/-- The error of a list of series: 1 no batch, 2 beyond the limits, 0 none. -/
def Code (bs : List Ser) (n : Nat) : Prop := (n = 1 ∧ ¬ BatchOk bs) ∨ (n = 2 ∧ BatchOk bs ∧ ¬ LimitsOk bs) ∨ (n = 0 ∧ BatchOk bs ∧ LimitsOk bs)
/-- The error of several lists of series. -/
def CodeAll (bss : List (List Ser)) (n : Nat) : Prop := (n = 1 ∧ ¬ ∀ bs ∈ bss, BatchOk bs) ∨ (n = 2 ∧ (∀ bs ∈ bss, BatchOk bs) ∧ ¬ ∀ bs ∈ bss, LimitsOk bs) ∨ (n = 0 ∧ (∀ bs ∈ bss, BatchOk bs) ∧ ∀ bs ∈ bss, LimitsOk bs)
theorem mem_get {bss : List (List Ser)} {P : List Ser → Prop} (h : ∀ i bs, i < bss.length → bss[i]? = some bs → P bs) : ∀ bs ∈ bss, P bs := fun bs hb => by
  obtain ⟨i, hi, e⟩ := List.mem_iff_getElem.1 hb
  exact h i bs hi (by rw [List.getElem?_eq_getElem hi, e])
set_option maxRecDepth 100000 in
set_option maxHeartbeats 400000 in
theorem checks_any (B bb bo cap : Nat) (bss : List (List Ser)) (w : World) (hc : ∀ i bs, bss[i]? = some bs → ∃ v, w.cell? ⟨bb, bo + i, none⟩ = some v ∧ BatchAt w B v bs) (hbb : bb < w.heap.size) (hB : B ≤ w.heap.size)
    (hsm : ∀ bs ∈ bss, Small bs) (hlen : bss.length ≤ 1000) :
    Calls Tryz.prog 72 #[.slice (some ⟨bb, bo, none⟩) bss.length cap] w fun e w' => (∃ n : Nat, e = .returned (.int .i64 n) ∧ CodeAll bss n) ∧ Below w.heap.size w w' := by
  have HC := hide hc
  have HSm := hide hsm
  clear hc hsm
  go_enter Tryz.func72, Tryz.ntmps72
  go_wp2
  go_loopw [4, 9] (fun _ i wr => ∃ k : Nat, k ≤ bss.length ∧ i = .int .i64 k ∧ Below w.heap.size w wr ∧ Hid (∀ i bs, i < k → bss[i]? = some bs → BatchOk bs)) (fun _ i _ => bss.length - (intOf i).toNat)
  case atStart => exact ⟨0, Nat.zero_le _, rfl, Below.refl _ _, fun i x h => by omega⟩
  case round =>
    obtain ⟨k, hk, rfl, hbl, HR⟩ := hrel
    have hsz := hbl.size
    have HBl := hide hbl
    by_cases hlt : k < bss.length
    · obtain ⟨bs, hy⟩ : ∃ y, bss[k]? = some y := ⟨_, List.getElem?_eq_getElem hlt⟩
      obtain ⟨v, c1, hv⟩ := HC.out k bs hy
      have m1 := (hbl.cell (p := ⟨bb, bo + k, none⟩) hbb).trans c1
      have C1 := hide (isBatch_any B v bs wr (hv.below hbl hB) (by omega) (HSm.out bs (List.mem_of_getElem? hy)))
      obtain ⟨a, c, rfl, _⟩ := id hv
      have HY := hide hy
      clear hy hv c1 hbl
      go_wp2_with fail
      refine C1.out.mono ?_
      rintro e w1 ⟨⟨r1, rfl, hr1⟩, hb1⟩
      have HB1 := hide (HBl.out.trans (hb1.mono hsz))
      cases r1 with
      | false =>
        have hno : CodeAll bss 1 := .inl ⟨rfl, fun h => by have := hr1.2 (h bs (List.mem_of_getElem? HY.out)); cases this⟩
        have HNo := hide hno
        clear hno hr1 hb1 m1
        go_wp2
        go_ret
        exact ⟨⟨1, rfl, HNo.out⟩, HB1.out⟩
      | true =>
        have HR1 := hide (hr1.1 rfl)
        clear hr1 hb1 m1 C1
        go_wp2
        go_roundw
        case rel => exact ⟨k + 1, by omega, by go_num, HB1.out, fun i x hi hx => by
            by_cases he : i = k
            · subst he; have h := HY.out; rw [hx] at h; cases h; exact HR1.out
            · exact HR.out i x (by omega) hx⟩
        case measure => simp [intOf]; omega
    · have HA : Hid (∀ bs ∈ bss, BatchOk bs) := mem_get fun i bs hi hx => HR.out i bs (by omega) hx
      clear hbl HR
      go_wp2
      go_loopw [6, 19] (fun _ i wr => ∃ k : Nat, k ≤ bss.length ∧ i = .int .i64 k ∧ Below w.heap.size w wr ∧ Hid (∀ i bs, i < k → bss[i]? = some bs → LimitsOk bs)) (fun _ i _ => bss.length - (intOf i).toNat)
      case atStart => exact ⟨0, Nat.zero_le _, rfl, HBl.out, fun i x h => by omega⟩
      case round =>
        obtain ⟨k, hk, rfl, hbl, HR⟩ := hrel
        have hsz := hbl.size
        have HBl := hide hbl
        by_cases hlt : k < bss.length
        · obtain ⟨bs, hy⟩ : ∃ y, bss[k]? = some y := ⟨_, List.getElem?_eq_getElem hlt⟩
          obtain ⟨v, c1, hv⟩ := HC.out k bs hy
          have m1 := (hbl.cell (p := ⟨bb, bo + k, none⟩) hbb).trans c1
          have C1 := hide (withinLimits_any B v bs wr (hv.below hbl hB) (by omega) (HSm.out bs (List.mem_of_getElem? hy)).series)
          obtain ⟨a, c, rfl, _⟩ := id hv
          have HY := hide hy
          clear hy hv c1 hbl
          go_wp2_with fail
          refine C1.out.mono ?_
          rintro e w1 ⟨⟨r1, rfl, hr1⟩, hb1⟩
          have HB1 := hide (HBl.out.trans (hb1.mono hsz))
          cases r1 with
          | false =>
            have hno : CodeAll bss 2 := .inr (.inl ⟨rfl, HA.out, fun h => by have := hr1.2 (h bs (List.mem_of_getElem? HY.out)); cases this⟩)
            have HNo := hide hno
            clear hno hr1 hb1 m1
            go_wp2
            go_ret
            exact ⟨⟨2, rfl, HNo.out⟩, HB1.out⟩
          | true =>
            have HR1 := hide (hr1.1 rfl)
            clear hr1 hb1 m1 C1
            go_wp2
            go_roundw
            case rel => exact ⟨k + 1, by omega, by go_num, HB1.out, fun i x hi hx => by
                by_cases he : i = k
                · subst he; have h := HY.out; rw [hx] at h; cases h; exact HR1.out
                · exact HR.out i x (by omega) hx⟩
            case measure => simp [intOf]; omega
        · have hno : CodeAll bss 0 := .inr (.inr ⟨rfl, HA.out, mem_get fun i bs hi hx => HR.out i bs (by omega) hx⟩)
          have HNo := hide hno
          clear hno hbl HR
          go_wp2
          go_ret
          exact ⟨⟨0, rfl, HNo.out⟩, HBl.out⟩
/-- One list of series, handed over in the block bb. -/
theorem check_any (B bb : Nat) (v : Value) (bs : List Ser) (w : World) (hc : w.cell? ⟨bb, 0, none⟩ = some v) (hS : BatchAt w B v bs) (hbb : bb < w.heap.size) (hB : B ≤ w.heap.size) (hsm : Small bs) :
    Calls Tryz.prog 72 #[.slice (some ⟨bb, 0, none⟩) 1 1] w fun e w' => (∃ n : Nat, e = .returned (.int .i64 n) ∧ Code bs n) ∧ Below w.heap.size w w' := by
  refine (checks_any B bb 0 1 [bs] w (fun i x hx => ?_) hbb hB (fun x hx => by rw [List.mem_singleton.1 hx]; exact hsm) (by simp)).mono ?_
  · cases i with
    | zero => cases hx; exact ⟨v, hc, hS⟩
    | succ i => simp at hx
  · rintro e w' ⟨⟨n, rfl, hn⟩, hb⟩
    refine ⟨⟨n, rfl, ?_⟩, hb⟩
    simpa [CodeAll, Code] using hn
end Go.Proofs.YtamcclcbmenjdaaGreatDoor

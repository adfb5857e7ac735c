/- 'choirkeep.Lattice', for any three lists of raw samples: joins do not hang on order, grouping and how often; with bytes and without it is the same. The first form's statement and its card: no condition beside the row's own. -/
import Derived.Test.YtamcclcbmenjdaaGreatDoorLatticeG1
import Derived.Laws.CopyRow
import Derived.Laws.MakeOwn
import Derived.Lib.SlBuf
import Derived.Test.YtamcclcbmenjdaaGreatDoorLatticeG6
import Derived.Test.YtamcclcbmenjdaaGreatDoorLatticeG4
/- A block that is known whole; rows of pairs; copy of pairs. -/
namespace Go.Proofs.YtamcclcbmenjdaaGreatDoor
open Go.RowKit Go.Lib

/-- Block g holds just these cells, and may be written. -/
def Blk (w : World) (g T : Nat) (xs : List Value) : Prop := w.heap[g]? = some (.cells xs.toArray T (0, 0))
theorem Blk.lt {w : World} {g T : Nat} {xs : List Value} (h : Blk w g T xs) : g < w.heap.size := (Array.getElem?_eq_some_iff.1 h).1
theorem Blk.cell {w : World} {g T : Nat} {xs : List Value} (h : Blk w g T xs) {i : Nat} {v : Value} (hi : xs[i]? = some v) : w.cell? ⟨g, i, none⟩ = some v := by
  unfold Blk at h
  simp only [World.cell?, h]
  simpa using hi
theorem Blk.frozen {w : World} {g T : Nat} {xs : List Value} (h : Blk w g T xs) (i : Nat) : w.frozen? ⟨g, i, none⟩ = false := by
  unfold Blk at h
  simp [World.frozen?, h]
theorem Blk.kept {w w' : World} {g T : Nat} {xs : List Value} (h : Blk w g T xs) (hk : w'.heap[g]? = w.heap[g]?) : Blk w' g T xs := hk.trans h
theorem Blk.below {w w' : World} {g T B : Nat} {xs : List Value} (h : Blk w g T xs) (hb : Below B w w') (hg : g < B) : Blk w' g T xs := h.kept (hb.block g hg)
theorem Blk.alloc {w : World} {g T : Nat} {xs : List Value} (h : Blk w g T xs) (o : Obj) : Blk (w.alloc o) g T xs := h.kept (heap_alloc_old w o h.lt)
theorem Blk.drewN {w : World} {g T : Nat} {xs : List Value} (h : Blk w g T xs) (q : Nat) : Blk (w.drewN q) g T xs := h.kept ((below_drewN (Below.refl w.heap.size w) q).block g h.lt)
theorem Blk.other {w : World} {g T k i : Nat} {xs : List Value} (h : Blk w g T xs) (hk : g ≠ k) (v : Value) : Blk (w.setCell ⟨k, i, none⟩ v) g T xs := h.kept (Below.heap_setCell w ⟨k, i, none⟩ v g hk)
theorem Blk.set {w : World} {g T : Nat} {xs : List Value} (h : Blk w g T xs) (i : Nat) (v : Value) : Blk (w.setCell ⟨g, i, none⟩ v) g T (xs.set i v) := by
  rw [setCell_eq_setRow w g i xs.toArray T (0, 0) v h, List.setIfInBounds_toArray]
  have := setRow_heap w g xs.toArray (xs.toArray.setIfInBounds i v) T (0, 0) h
  rw [List.setIfInBounds_toArray] at this
  exact this
theorem Blk.new (w : World) (T : Nat) (xs : List Value) : Blk (w.alloc (.cells xs.toArray T)) w.heap.size T xs := heap_alloc_new w _

/- Rows of pairs. -/
theorem serCells_length (l : List (Value × Value)) : (serCells l).length = 2 * l.length := by
  induction l with
  | nil => rfl
  | cons x r ih => simp only [serCells, List.flatMap_cons, List.length_append, List.length_cons, List.length_nil] at ih ⊢; omega
theorem serCells_get {l : List (Value × Value)} {i : Nat} {p : Value × Value} (h : l[i]? = some p) : (serCells l)[i * 2]? = some p.1 ∧ (serCells l)[i * 2 + 1]? = some p.2 :=
  pair_get (fun x : Value × Value => x.1) (fun x => x.2) l i p h
theorem serCells_set1 (v : Value) : ∀ (l : List (Value × Value)) (i : Nat) (p : Value × Value), l[i]? = some p → (serCells l).set (i * 2) v = serCells (l.set i (v, p.2))
  | [], _, _, h => by simp at h
  | a :: r, 0, p, h => by simp at h; subst h; simp [serCells]
  | a :: r, i + 1, p, h => by
    simp only [List.getElem?_cons_succ] at h
    have ih := serCells_set1 v r i p h
    rw [show (i + 1) * 2 = i * 2 + 1 + 1 by omega]
    show (a.1 :: a.2 :: serCells r).set (i * 2 + 1 + 1) v = a.1 :: a.2 :: serCells (r.set i (v, p.2))
    rw [List.set_cons_succ, List.set_cons_succ, ih]
theorem serCells_set2 (v : Value) : ∀ (l : List (Value × Value)) (i : Nat) (p : Value × Value), l[i]? = some p → (serCells l).set (i * 2 + 1) v = serCells (l.set i (p.1, v))
  | [], _, _, h => by simp at h
  | a :: r, 0, p, h => by simp at h; subst h; simp [serCells]
  | a :: r, i + 1, p, h => by
    simp only [List.getElem?_cons_succ] at h
    have ih := serCells_set2 v r i p h
    rw [show (i + 1) * 2 + 1 = i * 2 + 1 + 1 + 1 by omega]
    show (a.1 :: a.2 :: serCells r).set (i * 2 + 1 + 1 + 1) v = a.1 :: a.2 :: serCells (r.set i (p.1, v))
    rw [List.set_cons_succ, List.set_cons_succ, ih]
theorem serCells_set {w : World} {g T : Nat} {l : List (Value × Value)} (h : Blk w g T (serCells l)) (i : Nat) {p : Value × Value} (hp : l[i]? = some p) (v : Value) :
    Blk (w.setCell ⟨g, i * 2, none⟩ v) g T (serCells (l.set i (v, p.2))) ∧ Blk (w.setCell ⟨g, i * 2 + 1, none⟩ v) g T (serCells (l.set i (p.1, v))) := by
  rw [← serCells_set1 v l i p hp, ← serCells_set2 v l i p hp]
  exact ⟨h.set _ _, h.set _ _⟩
theorem serCells_app (a b : List (Value × Value)) : serCells (a ++ b) = serCells a ++ serCells b := by simp [serCells]
theorem serCells_rep (z : Value × Value) : ∀ n, serCells (List.replicate n z) = (madeCells #[z.1, z.2] (n * 2)).toList
  | 0 => by simp [serCells, madeCells]
  | n + 1 => by
    rw [List.replicate_succ', serCells_app, serCells_rep z n]
    apply List.ext_getElem?
    intro i
    simp only [madeCells, Array.toList_map, Array.toList_range, serCells]
    by_cases h : i < n * 2
    · rw [List.getElem?_append_left (by simpa using h)]
      simp [h, show i < (n + 1) * 2 by omega]
    · rw [List.getElem?_append_right (by simpa using h)]
      by_cases h2 : i < (n + 1) * 2
      · have e : i = n * 2 ∨ i = n * 2 + 1 := by omega
        rcases e with rfl | rfl
        · simp [show n * 2 < (n + 1) * 2 by omega]
        · simp [show n * 2 + 1 < (n + 1) * 2 by omega, Nat.add_mod]
      · simp [h2, show ¬ i - n * 2 < 2 by omega]
theorem serCells_rep_arr (z : Value × Value) (n : Nat) : (serCells (List.replicate n z)).toArray = madeCells #[z.1, z.2] (n * 2) := by rw [serCells_rep, Array.toArray_toList]
/-- A list with eight places more. -/
def roomP (ps : List (Value × Value)) (x z : Value × Value) (j : Nat) : List (Value × Value) := ps ++ (List.replicate j x ++ List.replicate (8 - j) z)
theorem roomP_length (ps : List (Value × Value)) (x z : Value × Value) (j : Nat) (h : j ≤ 8) : (roomP ps x z j).length = ps.length + 8 := by simp [roomP]; omega
theorem roomP_get (ps : List (Value × Value)) (x z : Value × Value) (j : Nat) (h : j < 8) : (roomP ps x z j)[ps.length + j]? = some z := by
  unfold roomP
  rw [List.getElem?_append_right (by omega), List.getElem?_append_right (by simp), List.length_replicate, List.getElem?_replicate, if_pos (by omega)]
theorem roomP_set (ps : List (Value × Value)) (x z : Value × Value) (j : Nat) (h : j < 8) : (roomP ps x z j).set (ps.length + j) x = roomP ps x z (j + 1) := by
  unfold roomP
  rw [List.set_append_right _ _ (by omega), List.set_append_right _ _ (by simp), show 8 - j = (8 - (j + 1)) + 1 by omega, List.replicate_succ]
  simp [List.replicate_succ']
theorem roomP_front (ps : List (Value × Value)) (x z : Value × Value) (j : Nat) {i : Nat} {p : Value × Value} (h : ps[i]? = some p) : (roomP ps x z j)[i]? = some p := by
  unfold roomP
  rw [List.getElem?_append_left (List.getElem?_eq_some_iff.1 h).1]; exact h
theorem roomP_back (ps : List (Value × Value)) (x z : Value × Value) {j : Nat} (h : j < 8) : (roomP ps x z 8)[ps.length + j]? = some x := by
  unfold roomP
  rw [List.getElem?_append_right (by omega), List.getElem?_append_left (by simp; omega), List.getElem?_replicate, if_pos (by omega)]

/-- copy of elements of any number of cells. -/
theorem run_copy_rows {P : Program} (w : World) (dT sT ty elem size : Nat) (g o dLen dCap : Nat) (a : Addr) (sLen sCap : Nat) (cur : Array Value) (t : TypeId) (cs : List Value)
    (hu : P.underlying dT = some (.slice elem)) (hs : (P.info? elem).map (·.size) = some size)
    (hg : w.heap[g]? = some (.cells cur t (0, 0))) (hn : cs.length = Nat.min sLen dLen * size)
    (hsrc : ∀ j v, cs[j]? = some v → w.cell? (a.add j) = some v) (hfit : o + cs.length ≤ cur.size) (h1 : ∀ v ∈ cs, v.oneCell' = true) :
    (Builtin.copy_ #[dT, sT] ty #[.slice (some ⟨g, o, none⟩) dLen dCap, .slice (some a) sLen sCap]).run P w =
      .ok (goInt (Nat.min sLen dLen)) (w.setRow g (cur.toList.take o ++ cs ++ cur.toList.drop (o + cs.length)).toArray) := by
  have hl := run_loadCells_list (P := P) w a cs hsrc
  have hst := run_storeCells_at P g o t cs 0 cur w hg (by simpa using hfit) h1
  cases hq : P.info? elem with
  | none => simp [hq] at hs
  | some i =>
    have hi : i.size = size := by simpa [hq] using hs
    simp [Builtin.copy_, run_underlying hu, Builtin.lenOf, Builtin.firstCells, sizeOf, typeInfo, hq, hi, ← hn, hl, hst]
theorem below_setRow (w : World) (g B : Nat) (cur : Array Value) (hg : B ≤ g) : Below B w (w.setRow g cur) := by
  refine ⟨rfl, rfl, rfl, by simp [World.setRow], fun k hk => ?_⟩
  unfold World.setRow
  simp only [Array.getElem?_modify]
  rw [if_neg (by omega)]

def labP (l : List Lab) : List (Value × Value) := l.map fun x => (.string x.1, .string x.2)
def samP (l : List (Int × Nat)) : List (Value × Value) := l.map fun x => (.int .i64 x.1, .int .u64 x.2)
theorem labP_cells (l : List Lab) : serCells (labP l) = labCells l := by simp [serCells, labP, labCells, List.flatMap_map]
theorem samP_cells (l : List (Int × Nat)) : serCells (samP l) = samCells l := by simp [serCells, samP, samCells, List.flatMap_map]
def bey : ByteArray := ⟨#[98, 101, 121, 111, 110, 100]⟩
/-- The slice is nil. -/
def isNil : Value → Bool
  | .slice none _ _ => true
  | _ => false
theorem addr_block (a : Addr) (j : Nat) : (a.add j).block = a.block := by unfold Addr.add; split <;> rfl
theorem getElem?_snoc {α : Type} {l : List α} {a x : α} {i : Nat} (h : (l ++ [a])[i]? = some x) : (i < l.length ∧ l[i]? = some x) ∨ (i = l.length ∧ x = a) := by
  by_cases hi : i < l.length
  · rw [List.getElem?_append_left hi] at h; exact .inl ⟨hi, h⟩
  · have h2 : i < l.length + 1 := by have := (List.getElem?_eq_some_iff.1 h).1; simpa using this
    obtain rfl : i = l.length := by omega
    rw [List.getElem?_append_right (Nat.le_refl _), Nat.sub_self] at h
    exact .inr ⟨rfl, by simpa using h.symm⟩
end Go.Proofs.YtamcclcbmenjdaaGreatDoor

/- container/heap over join's rests (of samples): Push, Pop; add, takeLeast. -/
namespace Go.Proofs.YtamcclcbmenjdaaGreatDoor
open Go.RowKit Go.Lib

/-- A heap, whole: whatever its slices are. -/
def HeapS (w0 : World) (K : Nat → Obj → Prop) (W : World) (hb : Nat) (ls : List (List (Int × Nat))) : Prop := ∃ lv vs ls', HsS w0 K W hb ls'.length lv vs ls' ∧ ls'.Perm ls ∧ Hp.IsHeap leS (hdS ls') ls'.length
theorem HeapS.perm {w0 : World} {K : Nat → Obj → Prop} {W : World} {hb : Nat} {ls ms : List (List (Int × Nat))} (h : HeapS w0 K W hb ls) (hp : ls.Perm ms) : HeapS w0 K W hb ms := by
  obtain ⟨lv, vs, ls', h1, h2, h3⟩ := h
  exact ⟨lv, vs, ls', h1, h2.trans hp, h3⟩
theorem HeapS.move {w0 : World} {K K' : Nat → Obj → Prop} {W W' : World} {hb : Nat} {ls : List (List (Int × Nat))} (h : HeapS w0 K W hb ls) (hs : W.heap.size ≤ W'.heap.size) (hk : ∀ k, k < W.heap.size → (∀ o, ¬ K k o) → W'.heap[k]? = W.heap[k]?) (hK : ∀ k o, K' k o → W'.heap[k]? = some o ∧ ((∃ o', K k o') ∨ W.heap.size ≤ k)) (hb0 : Below w0.heap.size w0 W') : HeapS w0 K' W' hb ls := by
  obtain ⟨lv, vs, ls', h1, h2, h3⟩ := h
  exact ⟨lv, vs, ls', ⟨h1.rst.move hs hk hK hb0, h1.lists, h1.len⟩, h2, h3⟩
theorem HeapS.kp {w0 : World} {K : Nat → Obj → Prop} {W : World} {hb : Nat} {ls : List (List (Int × Nat))} (h : HeapS w0 K W hb ls) {k : Nat} {o : Obj} (hk : K k o) : W.heap[k]? = some o := by
  obtain ⟨lv, vs, ls', h1, _⟩ := h; exact (h1.rst.kp k o hk).1
theorem HeapS.below {w0 : World} {K : Nat → Obj → Prop} {W : World} {hb : Nat} {ls : List (List (Int × Nat))} (h : HeapS w0 K W hb ls) : Below w0.heap.size w0 W := by
  obtain ⟨lv, vs, ls', h1, _⟩ := h; exact h1.rst.below
theorem HeapS.kept {w0 : World} {K : Nat → Obj → Prop} {W W' : World} {hb : Nat} {ls : List (List (Int × Nat))} (h : HeapS w0 K W hb ls) (hb' : Below W.heap.size W W') : HeapS w0 K W' hb ls := by
  obtain ⟨lv, vs, ls', h1, h2, h3⟩ := h
  exact ⟨lv, vs, ls', h1.kept hb', h2, h3⟩
theorem hdS_app {ls : List (List (Int × Nat))} {l : List (Int × Nat)} {k : Nat} (h : k < ls.length) : hdS (ls ++ [l]) k = hdS ls k := by
  unfold hdS; rw [List.getD_eq_getElem?_getD, List.getD_eq_getElem?_getD, List.getElem?_append_left h]
theorem ListsS.snoc {w0 : World} {vs : List Value} {ls : List (List (Int × Nat))} {v : Value} {l : List (Int × Nat)} (h : ListsS w0 vs ls) (hv : SamplesAt w0 w0.heap.size v l) (hl : l ≠ []) : ListsS w0 (vs ++ [v]) (ls ++ [l]) := by
  refine ⟨by simp [h.len], fun i u m hu hm => ?_⟩
  rcases getElem?_snoc hu with ⟨hi, hu⟩ | ⟨hi, rfl⟩
  · rw [List.getElem?_append_left (by rw [← h.len]; exact hi)] at hm
    exact h.each i u m hu hm
  · rw [hi, h.len, List.getElem?_append_right (Nat.le_refl _), Nat.sub_self] at hm
    cases hm
    exact ⟨hv, hl⟩

set_option maxRecDepth 100000 in
set_option maxHeartbeats 1000000 in
theorem heapPushS_any {w0 : World} {K : Nat → Obj → Prop} {hb : Nat} {ls : List (List (Int × Nat))} (W : World) (h : HeapS w0 K W hb ls) (a : Option Addr) (m c : Nat) (l : List (Int × Nat)) (hv : SamplesAt w0 w0.heap.size (.slice a m c) l) (hl : l ≠ []) (hsm : ∀ k ∈ l :: ls, ∀ x ∈ k, SmS x) (hn : ls.length ≤ 1000000000) :
    Calls Tryz.prog 159 #[.iface 229 (.pointer (some ⟨hb, 0, none⟩)), .iface 35 (.slice a m c)] W fun e w' => e = .returned (.tuple #[]) ∧ HeapS w0 K w' hb (l :: ls) := by
  obtain ⟨lv, vs, ls', h1, h2, h3⟩ := h
  have hlen := h2.length_eq
  have hvl := h1.lists.len
  have m1 := methS_push
  have m2 := methS_len
  have C1 := hide (pushS_any W h1.rst a m c (by omega))
  have HL := hide (h1.lists.snoc hv hl)
  have HU := hide (Hp.up_start (g := hdS (ls' ++ [l])) h3 fun k hk => hdS_app hk)
  have HP := hide h2
  have HSm := hide hsm
  clear h1 h3 h2 hsm hv
  go_enter Tryz.func159, Tryz.ntmps159
  go_wp2_with fail
  refine C1.out.mono ?_
  rintro e w1 ⟨rfl, lv1, hr1⟩
  have hlv : (vs ++ [Value.slice a m c]).length = ls'.length + 1 := by simp [hvl]
  have C2 := hide (lenS_any w1 hr1)
  rw [hlv] at C2
  have H1 : Hid (HsS w0 K w1 hb (ls'.length + 1) lv1 (vs ++ [.slice a m c]) (ls' ++ [l])) := ⟨hr1, HL.out, by simp⟩
  have C3 : Hid (∀ J : Int, J = (ls'.length : Int) → Calls Tryz.prog 192 #[.iface 229 (.pointer (some ⟨hb, 0, none⟩)), .int .i64 J] w1 fun e w' => e = .returned (.tuple #[]) ∧ ∃ vs2 ls2, HsS w0 K w' hb (ls'.length + 1) lv1 vs2 ls2 ∧ ls2.Perm (ls' ++ [l]) ∧ Hp.IsHeap leS (hdS ls2) (ls'.length + 1)) := fun J hJ => by
    subst hJ
    exact upS_any w1 H1.out (fun k hk x hx => HSm.out k (by
      rcases List.mem_append.1 hk with hk | hk
      · exact List.mem_cons_of_mem _ (HP.out.mem_iff.1 hk)
      · simp at hk; subst hk; exact List.mem_cons_self ..) x hx) ls'.length (by omega) (by omega) HU.out
  clear hr1 C1 hlv H1
  go_wp2_with fail
  refine C2.out.mono ?_
  rintro e w2 ⟨rfl, rfl⟩
  clear C2
  go_wp2_with fail
  refine (C3.out _ (by omega)).mono ?_
  rintro e w3 ⟨rfl, vs2, ls2, h4, h5, h6⟩
  have HF : Hid (HeapS w0 K w3 hb (l :: ls)) := by
    have hl2 := h4.len
    refine ⟨lv1, vs2, ls2, by rw [hl2]; exact h4, h5.trans ?_, by rw [hl2]; exact h6⟩
    exact (List.perm_append_comm (l₁ := ls') (l₂ := [l])).trans (List.Perm.cons _ HP.out)
  clear h4 h5 h6 C3
  go_wp2
  go_end0
  exact ⟨rfl, HF.out⟩

theorem ListsS.cut {w0 : World} {vs : List Value} {ls : List (List (Int × Nat))} (h : ListsS w0 vs ls) (n : Nat) : ListsS w0 (vs.take n) (ls.take n) := by
  refine ⟨by simp [h.len], fun i u m hu hm => ?_⟩
  rw [List.getElem?_take] at hu hm
  by_cases hi : i < n
  · rw [if_pos hi] at hu hm; exact h.each i u m hu hm
  · rw [if_neg hi] at hu; cases hu

set_option maxRecDepth 100000 in
set_option maxHeartbeats 1000000 in
theorem heapPopS_any {w0 : World} {K : Nat → Obj → Prop} {hb : Nat} {ls : List (List (Int × Nat))} (W : World) (h : HeapS w0 K W hb ls) (hsm : ∀ k ∈ ls, ∀ x ∈ k, SmS x) (hn : ls.length ≤ 1000000000) (h0 : ls ≠ []) :
    Calls Tryz.prog 166 #[.iface 229 (.pointer (some ⟨hb, 0, none⟩))] W fun e w' => ∃ a m c x t ms, e = .returned (.iface 35 (.slice a m c)) ∧ SamplesAt w0 w0.heap.size (.slice a m c) (x :: t) ∧ ls.Perm ((x :: t) :: ms) ∧ (∀ k ∈ ls, ∀ y, k.head? = some y → cmpT x y ≤ 0) ∧ HeapS w0 K w' hb ms := by
  obtain ⟨lv, vs, ls', h1, h2, h3⟩ := h
  have hlen := h2.length_eq
  have hvl := h1.lists.len
  obtain ⟨n, hn1⟩ : ∃ n, ls'.length = n + 1 := ⟨ls'.length - 1, by have : 0 < ls.length := List.length_pos_iff.2 h0; omega⟩
  rw [hn1] at h1 h3
  obtain ⟨x, t, v, hlx, hvx, ⟨a, m, c, rfl⟩, hdx⟩ := h1.cons (i := 0) (by omega)
  obtain ⟨y, s, u, hly, hvy, hsy, hdy⟩ := h1.cons (i := n) (by omega)
  have hmin : ∀ k ∈ ls, ∀ y, k.head? = some y → cmpT x y ≤ 0 := fun k hk z hz => by
    obtain ⟨i, hi, e⟩ := List.mem_iff_getElem.1 (h2.mem_iff.2 hk)
    have := Hp.heap_min leS_tot leS_tr h3 i (by omega)
    cases k with
    | nil => cases hz
    | cons p q =>
      cases hz
      rw [hdx, hdS_of (ls := ls') (k := i) (by rw [List.getElem?_eq_getElem hi, e])] at this
      exact this
  have hA := (h1.lists.each 0 _ _ hvx hlx).1
  have m1 := methS_swap
  have m2 := methS_len
  have m3 := methS_pop
  have C1 := hide (lenS_any W h1.rst)
  rw [show vs.length = n + 1 by omega] at C1
  have C2 : Hid (∀ J : Int, J = (n : Int) → Calls Tryz.prog 235 #[.pointer (some ⟨hb, 0, none⟩), .int .i64 0, .int .i64 J] W fun e w' => e = .returned (.tuple #[]) ∧ RstS w0 K w' hb lv ((vs.set 0 u).set n (.slice a m c))) := fun J hJ => by
    subst hJ
    exact swapS_any W h1.rst 0 n hvx hvy ⟨_, _, _, rfl⟩ hsy
  have hl1 := h1.lists.swap hvx hvy hlx hly
  have hd1 : Hp.DownInv leS (hdS ((ls'.set 0 (y :: s)).set n (x :: t))) n 0 := by
    refine Hp.down_start h3 fun k hk0 hk => ?_
    rw [hdS_swap hlx hly]
    unfold Hp.swp
    rw [if_neg (by omega), if_neg (by omega)]
  have hlast : ((ls'.set 0 (y :: s)).set n (x :: t))[n]? = some (x :: t) := by rw [List.getElem?_set_self (by simp; omega)]
  have hvlast : ((vs.set 0 u).set n (.slice a m c))[n]? = some (.slice a m c) := by rw [List.getElem?_set_self (by simp; omega)]
  have hperm := (Hp.set_swap_perm ls' 0 n _ _ hlx hly).trans h2
  have HA := hide hA
  have HMin := hide hmin
  have HL1 := hide hl1
  have HD1 := hide hd1
  have HLast := hide hlast
  have HVLast := hide hvlast
  have HPerm := hide hperm
  have HSm := hide hsm
  have HLen1 : Hid (((ls'.set 0 (y :: s)).set n (x :: t)).length = n + 1) := by show _ = _; simp [hn1]
  have HVLen1 : Hid (((vs.set 0 u).set n (.slice a m c)).length = n + 1) := by show _ = _; simp; omega
  clear h1 h2 h3 hl1 hd1 hlast hvlast hperm hmin hA hsm hlx hly hvx hvy hsy hdx hdy
  generalize (ls'.set 0 (y :: s)).set n (x :: t) = ls1 at *
  generalize (vs.set 0 u).set n (.slice a m c) = vs1 at *
  go_enter Tryz.func166, Tryz.ntmps166
  go_wp2_with fail
  refine C1.out.mono ?_
  rintro e w1 ⟨rfl, rfl⟩
  clear C1
  go_wp2_with fail
  refine (C2.out _ (by omega)).mono ?_
  rintro e w2 ⟨rfl, hr2⟩
  have C3 : Hid (∀ J : Int, J = (n : Int) → Calls Tryz.prog 197 #[.iface 229 (.pointer (some ⟨hb, 0, none⟩)), .int .i64 0, .int .i64 J] w2 fun e w' => (∃ r, e = .returned (.bool r)) ∧ ∃ vs' ls', HsS w0 K w' hb (n + 1) lv vs' ls' ∧ ls'.Perm ls1 ∧ Hp.IsHeap leS (hdS ls') n ∧ vs'[n]? = vs1[n]? ∧ ls'[n]? = ls1[n]?) := fun J hJ => by
    subst hJ
    exact downS_any w2 ⟨hr2, HL1.out, HLen1.out⟩ (fun k hk x hx => HSm.out k (HPerm.out.mem_iff.1 hk) x hx) (by omega) HD1.out
  clear hr2 C2
  go_wp2_with fail
  refine (C3.out _ (by omega)).mono ?_
  rintro e w3 ⟨⟨rb, rfl⟩, vs3, ls3, h4, h5, h6, h7, h8⟩
  have hv3 := take_last (h7.trans HVLast.out) (by rw [h4.lists.len, h4.len])
  have hl3 := take_last (h8.trans HLast.out) h4.len
  have hr3 := h4.rst
  rw [hv3] at hr3
  have hl3n : (ls3.take n).length = n := by rw [List.length_take, h4.len]; omega
  have hv3n : (vs3.take n).length = n := by rw [List.length_take, h4.lists.len, h4.len]; omega
  have C4 := hide (popS_any w3 hr3 (by omega))
  have HL3 := hide (h4.lists.cut n)
  have HP3 : Hid (ls.Perm ((x :: t) :: ls3.take n)) := by
    have := (h5.trans HPerm.out).symm
    rw [hl3] at this
    exact this.trans List.perm_append_comm
  have HH3 : Hid (Hp.IsHeap leS (hdS (ls3.take n)) n) := fun k hk0 hk => by
    have e : ∀ q, q < n → hdS (ls3.take n) q = hdS ls3 q := fun q hq => by
      unfold hdS; rw [List.getD_eq_getElem?_getD, List.getD_eq_getElem?_getD, List.getElem?_take, if_pos hq]
    rw [e _ (by omega), e _ hk]; exact h6 k hk0 hk
  clear h4 h5 h6 h7 h8 hv3 hl3 hr3 C3
  go_wp2_with fail
  refine C4.out.mono ?_
  rintro e w4 ⟨rfl, lv4, hr4⟩
  have HF : Hid (HeapS w0 K w4 hb (ls3.take n)) := ⟨lv4, vs3.take n, ls3.take n, by rw [hl3n]; exact ⟨hr4, HL3.out, hl3n⟩, List.Perm.refl _, by rw [hl3n]; exact HH3.out⟩
  clear hr4 C4
  go_wp2
  go_ret
  exact ⟨a, m, c, x, t, ls3.take n, rfl, HA.out, HP3.out, HMin.out, HF.out⟩
end Go.Proofs.YtamcclcbmenjdaaGreatDoor

/- A list of samples without its first. -/
namespace Go.Proofs.YtamcclcbmenjdaaGreatDoor
open Go.RowKit Go.Lib
theorem SamplesAt.tail {w : World} {B b o k n : Nat} {x : Int × Nat} {r : List (Int × Nat)} (h : SamplesAt w B (.slice (some ⟨b, o, none⟩) n k) (x :: r)) : n = r.length + 1 ∧ r.length ≤ k - 1 ∧ SamplesAt w B (.slice (some ⟨b, o + 2, none⟩) r.length (k - 1)) r := by
  obtain ⟨a, cap, e, hc, hr, h2⟩ := h
  cases e
  have hc' : r.length + 1 ≤ k := hc
  refine ⟨rfl, by omega, _, _, rfl, by omega, fun y hy => hr y (List.mem_cons_of_mem _ hy), ?_⟩
  rcases h2 with h2 | ⟨b', o', e, hb, hcell⟩
  · cases h2
  · cases e
    refine .inr ⟨b, o + 2, rfl, hb, fun i y hy => ?_⟩
    have := hcell (i + 1) y (by rw [List.getElem?_cons_succ]; exact hy)
    rw [show o + (i + 1) * 2 = o + 2 + i * 2 by omega] at this
    exact this

theorem SamplesAt.none (w : World) (B : Nat) (a : Option Addr) (q : Nat) : SamplesAt w B (.slice a 0 q) [] := ⟨a, q, rfl, Nat.zero_le _, fun x h => (by cases h), .inl rfl⟩
end Go.Proofs.YtamcclcbmenjdaaGreatDoor

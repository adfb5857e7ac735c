/- The map of labels' numbers. -/
import Derived.Test.YtcidgfdiacehmaaDoorAppStr
import Derived.Maps.OwnSet
import Derived.DeepKeys4
namespace Go.Proofs.YtcidgfdiacehmaaDoor
open Go.RowKit Go.Lib
open Go.Maps (Keyed)

theorem Tryd.laidOutM : laidOutB Tryd.prog = true := by kernel_rfl
theorem Tryd.rowLab : (42 : TypeId) < Tryd.prog.types.size := of_decide_eq_true (by kernel_rfl)
theorem labKeyed : Keyed Tryd.prog 42 := Keyed.of_law (deep_law_laid Tryd.laidOutM (m := 2) (by omega) Tryd.rowLab (by kernel_rfl) (by rw [Tryd.underlying42]))
theorem Tryd.cellsLab : Tryd.prog.cellsOf 42 = 2 := by kernel_rfl
theorem Tryd.cellsStr : Tryd.prog.cellsOf 9 = 1 := by kernel_rfl
theorem Tryd.keyLab : Tryd.prog.keyType 42 = true := by kernel_rfl
theorem Tryd.zeroNum (w : World) : (zeroValue 105).run Tryd.prog w = .ok (.agg #[.int .i64 0, .int .i64 0]) w := by kernel_rfl

/-- What a label reads as, as a map's key. -/
def kLit (x : ByteArray × ByteArray) : Lit := .string (keyBytes [.string x.1.data.toList, .string x.2.data.toList])
def ShortL (x : ByteArray × ByteArray) : Prop := x.1.size ≤ maxLen ∧ x.2.size ≤ maxLen
theorem kLit_of (x : ByteArray × ByteArray) (h : ShortL x) : keyOf Tryd.prog 42 (.agg #[.string x.1, .string x.2]) = some (kLit x) := by
  have hf : (Value.agg #[.string x.1, .string x.2]).formed Tryd.prog 42 = true := by
    simp [Value.formed, Tryd.underlying42, Tryd.cellsLab]
  obtain ⟨n, hn⟩ : ∃ n, Tryd.prog.types.size = n + 1 := Nat.exists_eq_succ_of_ne_zero (Nat.ne_of_gt (Nat.lt_of_le_of_lt (Nat.zero_le _) Tryd.rowLab))
  unfold keyOf
  rw [Tryd.underlying42]
  simp only [Tryd.keyLab, hf, Bool.and_self, if_true, hn]
  simp [Program.keyLits, Tryd.underlying42, Tryd.cellsLab, Tryd.underlying9, Tryd.cellsStr, Value.cells, h.1, h.2, kLit]
theorem kLit_inj {x y : ByteArray × ByteArray} (hx : ShortL x) (hy : ShortL y) (h : kLit x = kLit y) : x = y := by
  have e := labKeyed.inj (kLit_of x hx) (h ▸ kLit_of y hy)
  simp at e
  exact Prod.ext e.1 e.2

/-- How a pair of numbers reads. -/
def numD : Value → Option (DataW Unit × List MemPlace)
  | .agg cs => match cs.toList with
    | [.int .i64 a, .int .i64 b] => some (.agg [.lit (.int .i64 a), .lit (.int .i64 b)], [])
    | _ => none
  | _ => none
theorem numD_mk (a b : Int) : numD (.agg #[.int .i64 a, .int .i64 b]) = some (.agg [.lit (.int .i64 a), .lit (.int .i64 b)], []) := rfl
theorem numD_inv {v : Value} {z : DataW Unit × List MemPlace} (h : numD v = some z) : ∃ a b, v = .agg #[.int .i64 a, .int .i64 b] ∧ z = (.agg [.lit (.int .i64 a), .lit (.int .i64 b)], []) := by
  unfold numD at h
  split at h
  · rename_i cs
    split at h
    · rename_i a b he
      cases h
      refine ⟨a, b, ?_, rfl⟩
      obtain ⟨l⟩ := cs
      simp only at he
      rw [he]
    · cases h
  · cases h
def pairD (texts : List ByteArray) (x : ByteArray × ByteArray) : DataW Unit := .agg [.lit (.int .i64 (placeOf texts x.1)), .lit (.int .i64 (placeOf texts x.2))]

/-- Block mb is a map that has the numbers of all labels of 'seen', and of no label wrong ones. -/
structure NumMap (w : World) (mb n : Nat) (texts : List ByteArray) (seen : List (ByteArray × ByteArray)) : Prop where
  ex : ∃ D : DataW Unit, w.ownsMap Tryd.prog 42 numD mb n D ∧ (∀ x ∈ seen, Maps.has D (kLit x) = true) ∧ ∀ x, ShortL x → Maps.has D (kLit x) = true → ∀ z, D.atKey (kLit x) z = pairD texts x

theorem NumMap.made (w : World) (texts : List ByteArray) : NumMap (w.alloc (.map #[] 0)) w.heap.size 0 texts [] :=
  ⟨⟨_, World.ownsMap_made w _ _ _, fun x hx => (List.not_mem_nil hx).elim, fun x _ h => by simp [Maps.has] at h⟩⟩
theorem NumMap.lt {w : World} {mb n : Nat} {texts : List ByteArray} {seen : List (ByteArray × ByteArray)} (h : NumMap w mb n texts seen) : mb < w.heap.size := by
  obtain ⟨D, h1, _⟩ := h.ex
  exact h1.lt
theorem NumMap.kept {w w' : World} {mb n : Nat} {texts : List ByteArray} {seen : List (ByteArray × ByteArray)} (h : NumMap w mb n texts seen) (hk : w'.heap[mb]? = w.heap[mb]?) : NumMap w' mb n texts seen := by
  obtain ⟨D, ⟨es, clock, hb, r⟩, h2, h3⟩ := h.ex
  exact ⟨D, ⟨es, clock, hk.trans hb, r⟩, h2, h3⟩
theorem NumMap.mono {w : World} {mb n m : Nat} {texts : List ByteArray} {seen : List (ByteArray × ByteArray)} (h : NumMap w mb n texts seen) (hn : n ≤ m) : NumMap w mb m texts seen := by
  obtain ⟨D, h1, h2⟩ := h.ex
  exact ⟨D, h1.mono hn, h2⟩
/-- labels[l] of a label that is there. -/
theorem NumMap.look {w : World} {mb n : Nat} {texts : List ByteArray} {seen : List (ByteArray × ByteArray)} (h : NumMap w mb n texts seen) {x : ByteArray × ByteArray} (hx : x ∈ seen) (hs : ShortL x) :
    (Instr.lookup 84 (.map (some mb)) (.agg #[.string x.1, .string x.2]) false).run Tryd.prog w = .ok (.agg #[.int .i64 (placeOf texts x.1), .int .i64 (placeOf texts x.2)]) w := by
  obtain ⟨D, h1, h2, h3⟩ := h.ex
  obtain ⟨v, ps, hrun, hv⟩ := h1.lookup labKeyed Tryd.underlying84 (Tryd.zeroNum w) (numD_mk 0 0) (kLit_of x hs)
  rw [h3 x hs (h2 x hx)] at hv
  obtain ⟨a, b, rfl, hz⟩ := numD_inv hv
  simp [pairD] at hz
  rw [hrun, ← hz.1.1, ← hz.1.2]
/-- _, ok := found[l]. -/
theorem NumMap.look_ok {w : World} {mb n : Nat} {texts : List ByteArray} {seen : List (ByteArray × ByteArray)} (h : NumMap w mb n texts seen) (x : ByteArray × ByteArray) (hs : ShortL x) :
    ∃ (a b : Int) (k : Bool), (Instr.lookup 84 (.map (some mb)) (.agg #[.string x.1, .string x.2]) true).run Tryd.prog w = .ok (.tuple #[.agg #[.int .i64 a, .int .i64 b], .bool k]) w ∧ (k = true → NumMap w mb n texts (seen ++ [x])) := by
  obtain ⟨D, h1, h2, h3⟩ := h.ex
  obtain ⟨v, ps, hrun, hv⟩ := h1.look_ok labKeyed Tryd.underlying84 (Tryd.zeroNum w) (numD_mk 0 0) (kLit_of x hs)
  obtain ⟨a, b, rfl, _⟩ := numD_inv hv
  refine ⟨a, b, _, hrun, fun hk => ⟨D, h1, fun y hy => ?_, h3⟩⟩
  rcases List.mem_append.1 hy with hy | hy
  · exact h2 y hy
  · rw [List.mem_singleton.1 hy]; exact hk
/-- found[l] = numbers{..}, in whatever world whose map is that one. -/
theorem NumMap.store {w : World} {mb n : Nat} {texts : List ByteArray} {seen : List (ByteArray × ByteArray)} (h : NumMap w mb n texts seen) (x : ByteArray × ByteArray) (hs : ShortL x) (hn : n < maxLen) :
    ∃ f : World → World, ∀ W, W.heap[mb]? = w.heap[mb]? →
      (Instr.mapUpdate 84 (.map (some mb)) (.agg #[.string x.1, .string x.2]) (.agg #[.int .i64 (placeOf texts x.1), .int .i64 (placeOf texts x.2)])).run Tryd.prog W = .ok () (f W) ∧
      NumMap (f W) mb (n + 1) texts (seen ++ [x]) ∧ W.grownBy (f W) (some mb) := by
  have hex : ∀ W : World, ∃ W', W.heap[mb]? = w.heap[mb]? →
      (Instr.mapUpdate 84 (.map (some mb)) (.agg #[.string x.1, .string x.2]) (.agg #[.int .i64 (placeOf texts x.1), .int .i64 (placeOf texts x.2)])).run Tryd.prog W = .ok () W' ∧
      NumMap W' mb (n + 1) texts (seen ++ [x]) ∧ W.grownBy W' (some mb) := by
    intro W
    by_cases hk : W.heap[mb]? = w.heap[mb]?
    · obtain ⟨D, h1, h2, h3⟩ := (h.kept hk).ex
      obtain ⟨W', hrun, g1, g2⟩ := h1.update labKeyed Tryd.underlying84 hn (kLit_of x hs) (numD_mk (placeOf texts x.1) (placeOf texts x.2))
      have hm : Maps.IsMap D := h1.isMap
      have hkl : WideAt.IsKeyLit (kLit x) := labKeyed.key (kLit_of x hs)
      refine ⟨W', fun _ => ⟨hrun, ⟨_, g1, fun y hy => ?_, fun y hy hh z => ?_⟩, g2⟩⟩
      · by_cases he : kLit y = kLit x
        · rw [he]; exact Maps.has_put_same hm hkl _
        · rw [Maps.has_put_other he]
          rcases List.mem_append.1 hy with hy | hy
          · exact h2 y hy
          · exact absurd (by rw [List.mem_singleton.1 hy]) he
      · by_cases he : kLit y = kLit x
        · have hyx := kLit_inj hy hs he
          rw [hyx, Maps.atKey_put_same hm hkl]; rfl
        · rw [Maps.has_put_other he] at hh
          rw [Maps.atKey_put_other he]
          exact h3 y hy hh z
    · exact ⟨W, fun e => absurd e hk⟩
  exact ⟨fun W => Classical.choose (hex W), fun W => Classical.choose_spec (hex W)⟩
end Go.Proofs.YtcidgfdiacehmaaDoor

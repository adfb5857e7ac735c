/- append(b, s...), with the block that the slice lives in; slices of strings, and numberOf. -/
import Derived.Test.YtcidgfdiacehmaaDoorChunk
import Derived.Lib.AppendStr
namespace Go.Proofs.YtcidgfdiacehmaaDoor
open Go.RowKit Go.Lib

section
variable {P : Program} (w : World)
theorem wpList_append_heir_string {ops : Array Oper} {rest : List Oper} {o : Oper} {a : Act} {Q : Exit → Act → World → Prop} (hgd : o.guard = none) (sl x : Operand) (t u : TypeId)
    (ho : o.op = .call { callee := .builtin .append, args := #[sl, x], argTypes := #[t, u] })
    (base : Nat) (e : TypeId) (i : TypeInfo) (ht : P.underlying t = some (.slice e)) (hu : P.underlying u = some .string) (hi : P.info? e = some i) (hz : i.zero = some (.int .u8 0))
    (hsize : i.size = 1) (hby : i.bytes = 1)
    (v : Value) (n : Nat) (xs : List Value) (hs : a.eval sl = v) (hown : w.ownsRow base e 1 v n xs) (s : ByteArray) (hx : a.eval x = .string s)
    (h63 : n + s.size ≤ maxLen) (hbytes : n + s.size ≤ 140737488355328) (hbase : base ≤ w.heap.size)
    (h : ∀ v' w', w'.ownsRow base e 1 v' (n + s.size) (xs ++ strCells s) → w.grownBy w' v.ownBlock → Heir w v v' → wpList P ops Q rest (a.put o.dst v') w') : wpList P ops Q (o :: rest) a w := by
  refine wpList_plain hgd fun K hK => ?_
  obtain ⟨v', w', hr, h2, h3, _⟩ := run_append_own_string (P := P) w base t u o.type e i ht hu hi hz hsize hby v n xs hown s h63 hbytes hbase
  have hh : Heir w v v' := by
    rcases hown.2 with ⟨rfl, rfl⟩ | ⟨g, cap, cur, rfl, hbg, hgg, hnc, hcm, hcs, htake⟩
    · have hx : xs = [] := List.eq_nil_of_length_eq_zero (by simpa using hown.1)
      subst hx
      obtain ⟨v2, w2, hr2, ho2, _, _⟩ := run_append_own_string (P := P) w w.heap.size t u o.type e i ht hu hi hz hsize hby (.slice none 0 0) 0 [] (World.ownsRow_nil _ _ _ _) s h63 hbytes (Nat.le_refl _)
      rw [hr] at hr2
      cases hr2
      rcases ho2.2 with ⟨rfl, _⟩ | ⟨g, cap, cur, rfl, hb, _⟩
      · exact .inl rfl
      · exact .inr ⟨g, rfl, hb⟩
    · by_cases hroom : n + s.size ≤ cap
      · have hr2 := run_append_room_string (P := P) w t u o.type e i ht hu hi hsize g n cap cur hgg s hroom (by omega)
        rw [hr] at hr2
        cases hr2
        exact .inl rfl
      · have holds : ∀ j u, xs[j]? = some u → w.cell? ((⟨g, 0, none⟩ : Addr).add j) = some u := hown.cells (g := g) rfl
        have hr2 := run_append_grow_string (P := P) w t u o.type e i (.int .u8 0) ht hu hi hz ⟨g, 0, none⟩ n cap xs (by rw [hsize]; exact hown.1) holds s (by omega) (by simp only [maxLen] at h63; omega) (growslice_fits (by simp only [maxLen] at h63; omega) (by rw [hby]; omega))
        rw [hr] at hr2
        cases hr2
        exact .inr ⟨_, rfl, Nat.le_refl _⟩
  unfold Oper.wp execOp
  simp only [ho, resolve, invoke, builtin, Sem.run_bind, Sem.run_pure, Result.andThen_ok, List.map_toArray, List.map_cons, List.map_nil, hs, hx, hr]
  exact hK _ _ (h v' w' h2 h3 hh)
end

/-- A slice of strings in block b. -/
structure TextsAt (w : World) (v : Value) (b : Nat) (l : List ByteArray) : Prop where
  shape : (l = [] ∧ ∃ a c, v = .slice a 0 c) ∨ ∃ o c, v = .slice (some ⟨b, o, none⟩) l.length c ∧ ∀ i x, l[i]? = some x → w.cell? ⟨b, o + i, none⟩ = some (.string x)

theorem TextsAt.kept {w w' : World} {v : Value} {b : Nat} {l : List ByteArray} (h : TextsAt w v b l) (hk : w'.heap[b]? = w.heap[b]?) : TextsAt w' v b l := by
  refine ⟨?_⟩
  rcases h.shape with h | ⟨o, c, hv, hc⟩
  · exact .inl h
  · exact .inr ⟨o, c, hv, fun i x hx => (World.cell?_of_block (a := ⟨b, o + i, none⟩) hk).trans (hc i x hx)⟩

/-- Where a text stands among sorted ones. -/
def placeOf (l : List ByteArray) (x : ByteArray) : Nat := Lib.bsGo (fun t => Op.bytesLess (l.getD t ByteArray.empty).toList x.toList) l.length 0 l.length

theorem binarySearch_any (v : Value) (b : Nat) (l : List ByteArray) (x : ByteArray) (w : World) (ht : TextsAt w v b l) (hl : l.length ≤ 1000000) :
    Calls Tryd.prog 77 #[v, .string x] w fun e w' => (∃ k, e = .returned (.tuple #[.int .i64 (placeOf l x), .bool k])) ∧ ∃ q, w' = w.drewN q := by
  rcases ht.shape with ⟨rfl, a, c, rfl⟩ | ⟨o, c, rfl, hc⟩
  · refine (Any2.slices_BinarySearch_string_empty Tryd.laysBs a c x w).mono ?_
    rintro e w' ⟨rfl, rfl⟩
    exact ⟨⟨false, rfl⟩, 0, rfl⟩
  · refine (Any2.slices_BinarySearch_string Tryd.laysBs b o l.length c (fun t => l.getD t ByteArray.empty) x w (by omega) ?_).mono ?_
    · intro j hj
      have := hc j l[j] (List.getElem?_eq_getElem hj)
      rw [this, List.getD_eq_getElem?_getD, List.getElem?_eq_getElem hj]; rfl
    · rintro e w' ⟨rfl, q, rfl⟩
      exact ⟨⟨_, rfl⟩, q, rfl⟩

set_option maxHeartbeats 400000 in
theorem numberOf_any (v : Value) (b : Nat) (l : List ByteArray) (x : ByteArray) (w : World) (ht : TextsAt w v b l) (hl : l.length ≤ 1000000) :
    Calls Tryd.prog 65 #[v, .string x] w fun e w' => e = .returned (.int .i64 (placeOf l x)) ∧ ∃ q, w' = w.drewN q := by
  have HT := hide ht
  clear ht
  go_enter Tryd.func65, Tryd.ntmps65
  go_wp2_with fail
  refine (binarySearch_any v b l x _ HT.out hl).mono ?_
  rintro e w' ⟨⟨k, rfl⟩, q, rfl⟩
  go_wp2
  go_ret
  exact ⟨rfl, q, rfl⟩
end Go.Proofs.YtcidgfdiacehmaaDoor

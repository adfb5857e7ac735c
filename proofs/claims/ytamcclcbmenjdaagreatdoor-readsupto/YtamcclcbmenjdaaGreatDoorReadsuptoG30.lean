/- 'choirlaw.Reads', for any list of texts of bulk at most 1048576: Decode answers the document's batch or error, one behind the other; lists that came out are their owner's own. The second form's statement and its card: its only condition is the row's own bound on the argument's bulk. -/
import Derived.Test.YtamcclcbmenjdaaGreatDoorReadsuptoG16
import Derived.Laws.IdiomStrings
import Derived.Test.YtamcclcbmenjdaaGreatDoorReadsuptoG22
/- The law's book of lists that came out: what it holds; mark. -/
namespace Go.Proofs.YtamcclcbmenjdaaGreatDoor
open Go.RowKit Go.Lib

/-- The text of a mark. -/
def markT (n : Nat) : ByteArray := ⟨#[109, 97, 114, 107]⟩ ++ ⟨#[UInt8.ofNat (n % 256), UInt8.ofNat (n / 256 % 256)]⟩
/-- n pairs alike. -/
def rep (n : Nat) (c d : Value) : List Value := serCells (List.replicate n (c, d))
theorem rep_length (n : Nat) (c d : Value) : (rep n c d).length = 2 * n := by rw [rep, serCells_length, List.length_replicate]
theorem rep_get {n j : Nat} (c d : Value) (h : j < n) : (rep n c d)[j * 2]? = some c ∧ (rep n c d)[j * 2 + 1]? = some d :=
  serCells_get (p := (c, d)) (by rw [List.getElem?_replicate]; simp [h])
def LabM (w : World) (v : Value) (key : ByteArray) : Prop := ∃ n, w.ownsRow 0 80 2 v n (rep n (.string key) (.string ByteArray.empty))
def SamM (w : World) (v : Value) (t : Int) : Prop := ∃ n, w.ownsRow 0 34 2 v n (rep n (.int .i64 t) (.int .u64 0))
def SerM (w : World) (K : Nat → Prop) (v : Value) (key : ByteArray) : Prop :=
  ∃ n lz, w.ownsRow 0 38 2 v n (rep n lz (.slice none 0 0)) ∧ w.ownsRow 0 80 2 lz 1 (rep 1 (.string key) (.string ByteArray.empty)) ∧ ∀ k, lz.ownBlock = some k → K k
/-- v lives in blocks of K alone. -/
def In (K : Nat → Prop) (v : Value) : Prop := ∀ k, v.ownBlock = some k → K k
/-- A row of n lists, each as P says. -/
def RowM (w : World) (K : Nat → Prop) (T : Nat) (P : Nat → Value → Prop) (v : Value) (n : Nat) : Prop :=
  ∃ vals : List Value, w.ownsRow 0 T 1 v n vals ∧ In K v ∧ ∀ i u, vals[i]? = some u → P i u ∧ In K u
/-- The book. -/
structure Book (w : World) (kb : Nat) (K : Nat → Prop) (sv lv mv : Value) (ns nl nm : Nat) : Prop where
  lt : ∀ k, K k → k < w.heap.size
  kin : K kb
  blk : w.heap[kb]? = some (.cells #[sv, lv, mv, .slice none 0 0] 29)
  ser : RowM w K 39 (fun i u => SerM w K u (markT (i / 4 * 4))) sv ns
  lab : RowM w K 36 (fun i u => LabM w u (markT (i / 4 * 4))) lv nl
  sam : RowM w K 35 (fun i u => SamM w u (1000 + ((i / 4 * 4 : Nat) : Int))) mv nm
theorem LabM.kept {w w' : World} {K : Nat → Prop} {v : Value} {key : ByteArray} (h : LabM w v key) (hi : In K v) (hk : ∀ k, K k → w'.heap[k]? = w.heap[k]?) : LabM w' v key := by
  obtain ⟨n, h⟩ := h
  exact ⟨n, own_kept h fun k e => hk k (hi k e)⟩
theorem SamM.kept {w w' : World} {K : Nat → Prop} {v : Value} {t : Int} (h : SamM w v t) (hi : In K v) (hk : ∀ k, K k → w'.heap[k]? = w.heap[k]?) : SamM w' v t := by
  obtain ⟨n, h⟩ := h
  exact ⟨n, own_kept h fun k e => hk k (hi k e)⟩
theorem SerM.kept {w w' : World} {K K' : Nat → Prop} {v : Value} {key : ByteArray} (h : SerM w K v key) (hi : In K v) (hk : ∀ k, K k → w'.heap[k]? = w.heap[k]?) (hK : ∀ k, K k → K' k) : SerM w' K' v key := by
  obtain ⟨n, lz, h1, h2, h3⟩ := h
  exact ⟨n, lz, own_kept h1 fun k e => hk k (hi k e), own_kept h2 fun k e => hk k (h3 k e), fun k e => hK k (h3 k e)⟩
theorem RowM.kept {w w' : World} {K K' : Nat → Prop} {T n : Nat} {P Q : Nat → Value → Prop} {v : Value} (h : RowM w K T P v n) (hk : ∀ k, K k → w'.heap[k]? = w.heap[k]?) (hK : ∀ k, K k → K' k) (hp : ∀ i u, In K u → P i u → Q i u) : RowM w' K' T Q v n := by
  obtain ⟨vals, h1, h2, h3⟩ := h
  exact ⟨vals, own_kept h1 fun k e => hk k (h2 k e), fun k e => hK k (h2 k e), fun i u hu => ⟨hp i u (h3 i u hu).2 (h3 i u hu).1, fun k e => hK k ((h3 i u hu).2 k e)⟩⟩
theorem Book.kept {w w' : World} {kb : Nat} {K K' : Nat → Prop} {sv lv mv : Value} {ns nl nm : Nat} (h : Book w kb K sv lv mv ns nl nm) (hk : ∀ k, K k → w'.heap[k]? = w.heap[k]?) (hK : ∀ k, K k → K' k) (hl : ∀ k, K' k → k < w'.heap.size) : Book w' kb K' sv lv mv ns nl nm :=
  ⟨hl, hK _ h.kin, (hk _ h.kin).trans h.blk, h.ser.kept hk hK fun _ _ hi hu => hu.kept hi hk hK, h.lab.kept hk hK fun _ _ hi hu => hu.kept hi hk, h.sam.kept hk hK fun _ _ hi hu => hu.kept hi hk⟩
theorem Book.below {w w' : World} {kb : Nat} {K : Nat → Prop} {sv lv mv : Value} {ns nl nm : Nat} (h : Book w kb K sv lv mv ns nl nm) (hb : Below w.heap.size w w') : Book w' kb K sv lv mv ns nl nm :=
  h.kept (fun k hk => hb.block k (h.lt k hk)) (fun _ h => h) (fun k hk => Nat.lt_of_lt_of_le (h.lt k hk) hb.size)
theorem Book.cells {w : World} {kb : Nat} {K : Nat → Prop} {sv lv mv : Value} {ns nl nm : Nat} (h : Book w kb K sv lv mv ns nl nm) : w.cell? ⟨kb, 0, none⟩ = some sv ∧ w.cell? ⟨kb, 1, none⟩ = some lv ∧ w.cell? ⟨kb, 2, none⟩ = some mv ∧ w.cell? ⟨kb, 3, none⟩ = some (.slice none 0 0) ∧ kb < w.heap.size :=
  ⟨cell_of_row w kb 0 _ _ (0, 0) h.blk, cell_of_row w kb 1 _ _ (0, 0) h.blk, cell_of_row w kb 2 _ _ (0, 0) h.blk, cell_of_row w kb 3 _ _ (0, 0) h.blk, (Array.getElem?_eq_some_iff.1 h.blk).1⟩
/-- The value at a row's place. -/
theorem RowM.get {w : World} {K : Nat → Prop} {T n : Nat} {P : Nat → Value → Prop} {v : Value} (h : RowM w K T P v n) {i : Nat} (hi : i < n) : ∃ g cap u, v = .slice (some ⟨g, 0, none⟩) n cap ∧ w.cell? ⟨g, i, none⟩ = some u ∧ g < w.heap.size ∧ P i u ∧ In K u := by
  obtain ⟨vals, h1, h2, h3⟩ := h
  obtain ⟨g, cap, rfl, _⟩ := ownsRow_some h1 (by omega)
  have hl : vals.length = n := by have := h1.1; omega
  obtain ⟨u, hu⟩ : ∃ u, vals[i]? = some u := ⟨_, List.getElem?_eq_getElem (by omega)⟩
  exact ⟨g, cap, u, rfl, own_cell h1 hu, (World.ownsRow.lt h1 g rfl).2, (h3 i u hu).1, (h3 i u hu).2⟩
theorem RowM.shape {w : World} {K : Nat → Prop} {T n : Nat} {P : Nat → Value → Prop} {v : Value} (h : RowM w K T P v n) : ∃ a c, v = .slice a n c := by
  obtain ⟨vals, h1, _⟩ := h
  exact own_shape h1
/-- A pair of a row of pairs alike. -/
theorem rep_cell {w : World} {base e n : Nat} {v c d : Value} (h : w.ownsRow base e 2 v n (rep n c d)) {j : Nat} (hj : j < n) : ∃ g cap, v = .slice (some ⟨g, 0, none⟩) n cap ∧ w.cell? ⟨g, j * 2, none⟩ = some c ∧ w.cell? ⟨g, j * 2 + 1, none⟩ = some d := by
  rcases h.2 with ⟨_, h0⟩ | ⟨g, cap, cur, rfl, _⟩
  · omega
  · exact ⟨g, cap, rfl, own_cell h (rep_get c d hj).1, own_cell h (rep_get c d hj).2⟩
theorem conv_two (W : World) (g c n m : Nat) (h : n < 256) (h' : m < 256) (hc : W.cell? ⟨g, 0, none⟩ = some (.int .u8 n)) (hc' : W.cell? ⟨g, 1, none⟩ = some (.int .u8 m)) :
    (convert 83 9 (.slice (some ⟨g, 0, none⟩) 2 c)).run Tryz.prog W = .ok (.string ⟨#[UInt8.ofNat n, UInt8.ofNat m]⟩) W := by
  refine run_convert_bytes_back (P := Tryz.prog) W 83 9 5 ⟨g, 0, none⟩ c [UInt8.ofNat n, UInt8.ofNat m] Tryz.underlying83 Tryz.underlying5 Tryz.underlying9 (fun j hj => ?_)
  match j, hj with
  | 0, _ =>
    show W.cell? ⟨g, 0, none⟩ = some (.int .u8 ((UInt8.ofNat n).toNat : Int))
    rw [hc]; simp; omega
  | 1, _ =>
    show W.cell? ⟨g, 1, none⟩ = some (.int .u8 ((UInt8.ofNat m).toNat : Int))
    rw [hc']; simp; omega
  | j + 2, hj => simp at hj; omega
set_option maxRecDepth 100000 in
theorem mark_any (n : Nat) (w : World) (hn : n ≤ 1000000000) :
    Calls Tryz.prog 75 #[.int .i64 n] w fun e w' => e = .returned (.string (markT n)) ∧ Below w.heap.size w w' := by
  have e1 : (n : Int) % 256 = ((n % 256 : Nat) : Int) := by omega
  have e2 : (n : Int) / 256 % 256 = ((n / 256 % 256 : Nat) : Int) := by omega
  have hcv := conv_two (w.alloc (.cells #[.int .u8 ((n % 256 : Nat) : Int), .int .u8 ((n / 256 % 256 : Nat) : Int)] 5)) w.heap.size 2 (n % 256) (n / 256 % 256) (by omega) (by omega) (World.cell?_alloc_new _ _ _ 0) (World.cell?_alloc_new _ _ _ 1)
  rw [← e1, ← e2] at hcv
  clear e1 e2
  go_enter Tryz.func75, Tryz.ntmps75
  go_wp2
  go_ret
  exact ⟨rfl, (Below.refl _ _).alloc (Nat.le_refl _) _⟩
end Go.Proofs.YtamcclcbmenjdaaGreatDoor

/- Appends onto a list that stays in use: what was there reads as it did. Laws on worlds; the book's rows. -/
namespace Go.Proofs.YtamcclcbmenjdaaGreatDoor
open Go.RowKit Go.Lib

theorem own_prefix {w : World} {base e size N n cap : Nat} {g : Nat} {xs : List Value} (h : w.ownsRow base e size (.slice (some ⟨g, 0, none⟩) N cap) N xs) (hn : n ≤ N) : w.ownsRow base e size (.slice (some ⟨g, 0, none⟩) n cap) n (xs.take (n * size)) := by
  have hle : n * size ≤ N * size := Nat.mul_le_mul_right _ hn
  refine ⟨by rw [List.length_take, h.1]; omega, ?_⟩
  rcases h.2 with ⟨h0, _⟩ | ⟨g', cap', cur, hv, hb, hg, hnc, hcm, hcs, htk⟩
  · cases h0
  · cases hv
    exact .inr ⟨g, cap, cur, rfl, hb, hg, by omega, hcm, hcs, by rw [← htk, List.take_take, Nat.min_eq_left hle]⟩
theorem own_weak {w : World} {base base' e size n : Nat} {g cap : Nat} {xs : List Value} (h : w.ownsRow base e size (.slice (some ⟨g, 0, none⟩) n cap) n xs) (hb : base' ≤ g) : w.ownsRow base' e size (.slice (some ⟨g, 0, none⟩) n cap) n xs := by
  refine ⟨h.1, ?_⟩
  rcases h.2 with ⟨h0, _⟩ | ⟨g', cap', cur, hv, _, r⟩
  · cases h0
  · cases hv
    exact .inr ⟨g, cap, cur, rfl, hb, r⟩
section
variable {P : Program} (w : World)
theorem run_append_keeps (base : Nat) (t ty e : TypeId) (i : TypeInfo) (z : Value) (size bytes : Nat) (ht : P.underlying t = some (.slice e)) (hi : P.info? e = some i) (hz : i.zero = some z)
    (hsize : i.size = size) (hby : i.bytes = bytes) (hzs : z.cells.size = size) (hsz : 0 < size)
    (v : Value) (n : Nat) (xs : List Value) (hown : w.ownsRow base e size v n xs)
    (a : Addr) (m c : Nat) (news : List Value) (hl : news.length = m * size) (hnews : ∀ j u, news[j]? = some u → w.cell? (a.add j) = some u) (h1 : ∀ u ∈ news, u.oneCell' = true)
    (h63 : n + m ≤ maxLen) (hbytes : (n + m) * bytes ≤ 140737488355328) (hbase : base ≤ w.heap.size) :
    ∃ v' w', (Builtin.append_ #[t, t] ty #[v, .slice (some a) m c]).run P w = .ok v' w' ∧ w'.ownsRow base e size v' (n + m) (xs ++ news) ∧ w.grownBy w' v.ownBlock ∧ Heir w v v' ∧
      ∀ (base' : Nat) (u : Value) (N : Nat), N ≤ n + m → w.ownsRow base' e size u N ((xs ++ news).take (N * size)) → w'.ownsRow base' e size u N ((xs ++ news).take (N * size)) := by
  obtain ⟨v', w', hr, ho, hg, hh⟩ := run_append_heir (P := P) w base t ty e i z size bytes ht hi hz hsize hby hzs hsz v n xs hown a m c news hl hnews h1 h63 hbytes hbase
  refine ⟨v', w', hr, ho, hg, hh, fun base' u N hN hu => ?_⟩
  have hlt := World.ownsRow.lt hu
  rcases hown.2 with ⟨rfl, rfl⟩ | ⟨g, cap, cur, rfl, hbg, hgg, hnc, hcm, hcs, htake⟩
  · exact own_kept hu fun k e => hg.block k (hlt k e).2 (fun e' => by cases e')
  · by_cases hroom : n + m ≤ cap
    · obtain ⟨w2, hr2, ho2, _⟩ := run_append_fits (P := P) w base t ty e i size ht hi hsize g n cap xs hown a m c news hl hnews h1 hroom
      rw [hr] at hr2
      cases hr2
      by_cases hb : u.ownBlock = some g
      · rcases hu.2 with ⟨rfl, _⟩ | ⟨g', cap', cur', rfl, hb', hg', hn', hm', hs', ht'⟩
        · cases hb
        · have e1 : g' = g := Option.some.inj hb
          subst e1
          rw [hgg] at hg'
          have e2 : cur = cur' := by simpa using hg'
          subst e2
          have e3 : cap' = cap := by
            rw [hcs] at hs'
            exact (Nat.eq_of_mul_eq_mul_right hsz hs').symm
          subst e3
          have hp := own_prefix ho2 hN
          exact own_weak hp hb'
      · exact own_kept hu fun k e => hg.block k (hlt k e).2 (fun e' => hb (by rw [e, e']; rfl))
    · subst hsize
      subst hby
      have holds : ∀ j u, xs[j]? = some u → w.cell? ((⟨g, 0, none⟩ : Addr).add j) = some u := hown.cells (g := g) rfl
      have hr2 := run_append_grow (P := P) w t ty e i z ht hi hz ⟨g, 0, none⟩ n cap xs hown.1 holds a m c news hl hnews (by omega) (by simp only [maxLen] at h63; omega) (growslice_fits (by omega) hbytes)
      rw [hr] at hr2
      cases hr2
      exact own_kept hu fun k e => heap_alloc_old w.drew _ (hlt k e).2
theorem wpList_append_keeps {ops : Array Oper} {rest : List Oper} {o : Oper} {a : Act} {Q : Exit → Act → World → Prop} (hgd : o.guard = none) (s x : Operand) (t : TypeId)
    (ho : o.op = .call { callee := .builtin .append, args := #[s, x], argTypes := #[t, t] })
    (base : Nat) (e : TypeId) (i : TypeInfo) (z : Value) (size bytes : Nat) (ht : P.underlying t = some (.slice e)) (hi : P.info? e = some i) (hz : i.zero = some z)
    (hsize : i.size = size) (hby : i.bytes = bytes) (hzs : z.cells.size = size) (hsz : 0 < size)
    (v : Value) (n : Nat) (xs : List Value) (hs : a.eval s = v) (hown : w.ownsRow base e size v n xs)
    (ad : Addr) (m c : Nat) (news : List Value) (hx : a.eval x = .slice (some ad) m c) (hl : news.length = m * size) (hnews : ∀ j u, news[j]? = some u → w.cell? (ad.add j) = some u) (h1 : ∀ u ∈ news, u.oneCell' = true)
    (h63 : n + m ≤ maxLen) (hbytes : (n + m) * bytes ≤ 140737488355328) (hbase : base ≤ w.heap.size)
    (h : ∀ v' w', w'.ownsRow base e size v' (n + m) (xs ++ news) → w.grownBy w' v.ownBlock → Heir w v v' → (∀ (base' : Nat) (u : Value) (N : Nat), N ≤ n + m → w.ownsRow base' e size u N ((xs ++ news).take (N * size)) → w'.ownsRow base' e size u N ((xs ++ news).take (N * size))) → wpList P ops Q rest (a.put o.dst v') w') : wpList P ops Q (o :: rest) a w := by
  refine wpList_plain hgd fun K hK => ?_
  obtain ⟨v', w', hr, h2, h3, h4, h5⟩ := run_append_keeps (P := P) w base t o.type e i z size bytes ht hi hz hsize hby hzs hsz v n xs hown ad m c news hl hnews h1 h63 hbytes hbase
  unfold Oper.wp execOp
  simp only [ho, resolve, invoke, builtin, Sem.run_bind, Sem.run_pure, Result.andThen_ok, List.map_toArray, List.map_cons, List.map_nil, hs, hx, hr]
  exact hK _ _ (h v' w' h2 h3 h4 h5)
end
end Go.Proofs.YtamcclcbmenjdaaGreatDoor

/- The book while a batch is kept: its state, and how a group of lists is added. -/
namespace Go.Proofs.YtamcclcbmenjdaaGreatDoor
open Go.RowKit Go.Lib

theorem rep_add (n m : Nat) (c d : Value) : rep n c d ++ rep m c d = rep (n + m) c d := by
  unfold rep; rw [← serCells_app, List.replicate_append_replicate]
theorem rep_take {n N : Nat} (c d : Value) (h : N ≤ n) : (rep n c d).take (N * 2) = rep N c d := by
  have e : n = N + (n - N) := by omega
  rw [e, ← rep_add]
  have hl : (rep N c d).length = N * 2 := by rw [rep_length]; omega
  rw [← hl, List.take_left]
/-- The first j pairs written over. -/
def mixP (c d : Value) (ps : List (Value × Value)) (j : Nat) : List (Value × Value) := List.replicate j (c, d) ++ ps.drop j
theorem mixP_get {c d : Value} {ps : List (Value × Value)} {j : Nat} (h : j < ps.length) : (mixP c d ps j)[j]? = some ps[j] := by
  unfold mixP
  rw [List.getElem?_append_right (by simp)]
  simp [List.getElem?_drop, h]
theorem mixP_set {c d : Value} {ps : List (Value × Value)} {j : Nat} (h : j < ps.length) : (mixP c d ps j).set j (c, d) = mixP c d ps (j + 1) := by
  unfold mixP
  rw [List.set_append_right _ _ (by simp), List.length_replicate, Nat.sub_self, List.drop_eq_getElem_cons h, List.set_cons_zero, List.replicate_succ', List.append_assoc]
  rfl
theorem mixP_end (c d : Value) (ps : List (Value × Value)) : serCells (mixP c d ps ps.length) = rep ps.length c d := by
  unfold mixP rep; simp
theorem mixP_length {c d : Value} {ps : List (Value × Value)} {j : Nat} (h : j ≤ ps.length) : (mixP c d ps j).length = ps.length := by
  unfold mixP; simp; omega
/-- What an assignment to a pair makes of a row. -/
theorem mix_stored {w : World} {base e cap g : Nat} {c d : Value} {ps : List (Value × Value)} {j : Nat} (hj : j < ps.length) (h : w.ownsRow base e 2 (.slice (some ⟨g, 0, none⟩) ps.length cap) ps.length (serCells (mixP c d ps j))) :
    ((w.setCell ⟨g, j * 2, none⟩ c).setCell ⟨g, j * 2 + 1, none⟩ d).ownsRow base e 2 (.slice (some ⟨g, 0, none⟩) ps.length cap) ps.length (serCells (mixP c d ps (j + 1))) ∧ w.grownBy ((w.setCell ⟨g, j * 2, none⟩ c).setCell ⟨g, j * 2 + 1, none⟩ d) (some g) := by
  obtain ⟨h1, g1⟩ := h.stored (j * 2) c
  rw [serCells_set1 c _ j _ (mixP_get hj)] at h1
  obtain ⟨h2, g2⟩ := h1.stored (j * 2 + 1) d
  have hget : ((mixP c d ps j).set j (c, ps[j].2))[j]? = some (c, ps[j].2) := by
    rw [List.getElem?_set_self (by rw [mixP_length (by omega)]; exact hj)]
  rw [serCells_set2 d _ j _ hget, List.set_set, mixP_set hj] at h2
  refine ⟨h2, ⟨g2.os.trans g1.os, g2.tape.trans g1.tape, g2.output.trans g1.output, Nat.le_trans g1.size g2.size, fun k hk hne => (g2.block k (Nat.lt_of_lt_of_le hk g1.size) hne).trans (g1.block k hk hne)⟩⟩
/-- The state while a batch is kept. -/
structure KSt (w W : World) (B base kb : Nat) (K Kc : Nat → Prop) (sv lv mv : Value) (ns nl nm : Nat) : Prop where
  below : Below B w W
  keep : ∀ k, k < base → ¬ K k → W.heap[k]? = w.heap[k]?
  sub : ∀ k, Kc k → K k ∨ base ≤ k
  size : base ≤ W.heap.size
  bb : B ≤ base
  book : Book W kb Kc sv lv mv ns nl nm
  kb : ∀ k, K k → B ≤ k
theorem KSt.write {w W W' : World} {B base kb : Nat} {K Kc : Nat → Prop} {sv lv mv : Value} {ns nl nm : Nat} (h : KSt w W B base kb K Kc sv lv mv ns nl nm) {g : Option Nat} (hg : W.grownBy W' g) (hn : ∀ k, g = some k → base ≤ k ∧ ¬ Kc k) : KSt w W' B base kb K Kc sv lv mv ns nl nm := by
  have hbs := h.size
  have hbb := h.bb
  refine ⟨h.below.grown hg (by omega) (fun k e => by have := (hn k e).1; omega), fun k hk hK => (hg.block k (by omega) (fun e => by have := (hn k e.symm).1; omega)).trans (h.keep k hk hK), h.sub, Nat.le_trans hbs hg.size, hbb, h.book.kept (fun k hk => hg.block k (h.book.lt k hk) (fun e => (hn k e.symm).2 hk)) (fun _ h => h) (fun k hk => Nat.lt_of_lt_of_le (h.book.lt k hk) hg.size), h.kb⟩
theorem grown_alloc (W : World) (o : Obj) : W.grownBy (W.alloc o) none := ⟨rfl, rfl, rfl, by simp, fun _ hk _ => heap_alloc_old W o hk⟩
theorem grown_of_below {W W' : World} (h : Below W.heap.size W W') : W.grownBy W' none := ⟨h.os, h.tape, h.output, h.size, fun k hk _ => h.block k hk⟩
theorem KSt.alloc {w W : World} {B base kb : Nat} {K Kc : Nat → Prop} {sv lv mv : Value} {ns nl nm : Nat} (h : KSt w W B base kb K Kc sv lv mv ns nl nm) (o : Obj) : KSt w (W.alloc o) B base kb K Kc sv lv mv ns nl nm := h.write (grown_alloc W o) (fun _ e => by cases e)
theorem kb_types {w : World} {kb b e s n : Nat} {v : Value} {xs : List Value} {cs : Array Value} {T : TypeId} {f : Nat × Nat} (hk : w.heap[kb]? = some (.cells cs T f)) (h : w.ownsRow b e s v n xs) (he : e ≠ T) : v.ownBlock ≠ some kb := fun e' => by
  rcases h.2 with ⟨rfl, _⟩ | ⟨g, cap, cur, rfl, _, hh, _⟩
  · cases e'
  · have a1 : g = kb := Option.some.inj e'
    rw [a1, hk] at hh
    simp only [Option.some.injEq, Obj.cells.injEq] at hh
    exact he hh.2.1.symm
theorem four_get {P : Nat → Value → Prop} {vals four : List Value} {n : Nat} (hn : vals.length = n) (hm : n % 4 = 0) (hf : four.length = 4) (h1 : ∀ i u, vals[i]? = some u → P (i / 4 * 4) u) (h2 : ∀ u ∈ four, P n u) : ∀ i u, (vals ++ four)[i]? = some u → P (i / 4 * 4) u := fun i u hu => by
  by_cases hi : i < vals.length
  · rw [List.getElem?_append_left hi] at hu; exact h1 i u hu
  · rw [List.getElem?_append_right (by omega)] at hu
    have hi2 := (List.getElem?_eq_some_iff.1 hu).1
    have e : i / 4 * 4 = n := by omega
    rw [e]; exact h2 u (List.mem_of_getElem? hu)
def Tr (W W2 : World) (T : Nat) : Prop := ∀ (b e s : Nat) (u : Value) (n : Nat) (xs : List Value), e ≠ T → e ≠ 29 → W.ownsRow b e s u n xs → W2.ownsRow b e s u n xs
theorem LabM.via {W W2 : World} {T : Nat} {u : Value} {key : ByteArray} (h : LabM W u key) (tr : Tr W W2 T) (h1 : 80 ≠ T) (h2 : 80 ≠ 29) : LabM W2 u key := by
  obtain ⟨n, h⟩ := h
  exact ⟨n, tr _ _ _ _ _ _ h1 h2 h⟩
theorem SamM.via {W W2 : World} {T : Nat} {u : Value} {t : Int} (h : SamM W u t) (tr : Tr W W2 T) (h1 : 34 ≠ T) (h2 : 34 ≠ 29) : SamM W2 u t := by
  obtain ⟨n, h⟩ := h
  exact ⟨n, tr _ _ _ _ _ _ h1 h2 h⟩
theorem SerM.via {W W2 : World} {T : Nat} {K K' : Nat → Prop} {u : Value} {key : ByteArray} (h : SerM W K u key) (tr : Tr W W2 T) (h1 : 38 ≠ T) (h2 : 38 ≠ 29) (h3 : 80 ≠ T) (h4 : 80 ≠ 29) (hK : ∀ k, K k → K' k) : SerM W2 K' u key := by
  obtain ⟨n, lz, a, b, c⟩ := h
  exact ⟨n, lz, tr _ _ _ _ _ _ h1 h2 a, tr _ _ _ _ _ _ h3 h4 b, fun k e => hK k (c k e)⟩
theorem SerM.more {W : World} {K K' : Nat → Prop} {u : Value} {key : ByteArray} (h : SerM W K u key) (hK : ∀ k, K k → K' k) : SerM W K' u key := by
  obtain ⟨n, lz, a, b, c⟩ := h
  exact ⟨n, lz, a, b, fun k e => hK k (c k e)⟩
theorem RowM.kept' {W W2 : World} {T E n : Nat} {K K' : Nat → Prop} {P Q : Nat → Value → Prop} {v : Value} (tr : Tr W W2 T) (hK : ∀ k, K k → K' k) (h : RowM W K E P v n) (h1 : E ≠ T) (h2 : E ≠ 29) (hp : ∀ i u, P i u → Q i u) : RowM W2 K' E Q v n := by
  obtain ⟨vals, a, b, c⟩ := h
  exact ⟨vals, tr _ _ _ _ _ _ h1 h2 a, fun k e => hK k (b k e), fun i u hu => ⟨hp i u (c i u hu).1, fun k e => hK k ((c i u hu).2 k e)⟩⟩
theorem KSt.addLab {w W W1 : World} {B base kb : Nat} {K Kc Kc' : Nat → Prop} {sv lv mv lv' : Value} {ns nl nm : Nat} {vals four : List Value} (h : KSt w W B base kb K Kc sv lv mv ns nl nm) (hrow : W.ownsRow 0 36 1 lv nl vals) (hil : In Kc lv) (hp : ∀ i u, vals[i]? = some u → LabM W u (markT (i / 4 * 4)) ∧ In Kc u) (hm : nl % 4 = 0) (hf : four.length = 4)
    (hg : W.grownBy W1 lv.ownBlock) (ho : W1.ownsRow 0 36 1 lv' (nl + 4) (vals ++ four)) (hK : ∀ k, Kc k → Kc' k) (hin : In Kc' lv') (h4 : ∀ u ∈ four, LabM W u (markT nl) ∧ In Kc' u) (hs : ∀ k, Kc' k → K k ∨ base ≤ k) (hlt : ∀ k, Kc' k → k < W1.heap.size) :
    KSt w (W1.setCell ⟨kb, 1, none⟩ lv') B base kb K Kc' sv lv' mv ns (nl + 4) nm := by
  have hblk := h.book.blk
  have hkl : lv.ownBlock ≠ some kb := kb_types hblk hrow (by decide)
  have hkbs : kb < W.heap.size := (Array.getElem?_eq_some_iff.1 hblk).1
  have hkb1 : W1.heap[kb]? = some (.cells #[sv, lv, mv, .slice none 0 0] 29) := (hg.block kb hkbs (fun e => hkl e.symm)).trans hblk
  have hkB : B ≤ kb := by
    have := h.bb
    rcases h.sub kb h.book.kin with hk | hk
    · exact h.kb kb hk
    · omega
  have hlB : ∀ k, lv.ownBlock = some k → B ≤ k := fun k e => by
    have := h.bb
    rcases h.sub k (hil k e) with hk | hk
    · exact h.kb k hk
    · omega
  have hk2 : ∀ k, k ≠ kb → (W1.setCell ⟨kb, 1, none⟩ lv').heap[k]? = W1.heap[k]? := fun k hk => Below.heap_setCell W1 ⟨kb, 1, none⟩ lv' k hk
  have hsz : (W1.setCell ⟨kb, 1, none⟩ lv').heap.size = W1.heap.size := by simp
  have hbw : Below B W (W1.setCell ⟨kb, 1, none⟩ lv') := ((Below.refl B W).grown hg (by have := h.bb; have := h.size; omega) hlB).setCell hkB _
  have hbl2 : Blk (W1.setCell ⟨kb, 1, none⟩ lv') kb 29 ([sv, lv, mv, .slice none 0 0].set 1 lv') := Blk.set (xs := [sv, lv, mv, .slice none 0 0]) hkb1 1 lv'
  have tr : ∀ (b e s : Nat) (u : Value) (n : Nat) (xs : List Value), e ≠ 36 → e ≠ 29 → W.ownsRow b e s u n xs → (W1.setCell ⟨kb, 1, none⟩ lv').ownsRow b e s u n xs := fun b e s u n xs h1 h2 hu => own_kept hu fun k e' => (hk2 k (fun e2 => kb_types hblk hu h2 (by rw [e', e2]))).trans (hg.block k (World.ownsRow.lt hu k e').2 (fun e2 => own_types hu hrow h1 k e' e2.symm))
  generalize hW2 : W1.setCell ⟨kb, 1, none⟩ lv' = W2 at *
  have hvl : vals.length = nl := by have := hrow.1; omega
  have trLab : ∀ i u, (fun i u => LabM W u (markT i)) i u → LabM W2 u (markT i) := fun i u hu => hu.via tr (by decide) (by decide)
  refine ⟨h.below.trans hbw, fun k hk hK2 => ?_, hs, by have := hg.size; have := h.size; omega, h.bb, ⟨fun k hk => by have := hlt k hk; omega, hK _ h.book.kin, hbl2, ?_, ⟨vals ++ four, own_kept ho fun k e => hk2 k (fun e' => kb_types hkb1 ho (by decide) (by rw [e, e'])), hin, fun i u hu => ⟨?_, ?_⟩⟩, ?_⟩, h.kb⟩
  · have h1 : k ≠ kb := fun e => by
      rcases h.sub kb h.book.kin with h2 | h2
      · exact hK2 (by rw [e]; exact h2)
      · omega
    have h3 : some k ≠ lv.ownBlock := fun e => by
      rcases h.sub k (hil k e.symm) with h2 | h2
      · exact hK2 h2
      · omega
    exact ((hk2 k h1).trans (hg.block k (by have := h.size; omega) h3)).trans (h.keep k hk hK2)
  · exact RowM.kept' tr hK h.book.ser (by decide) (by decide) (fun _ _ hu => hu.via tr (by decide) (by decide) (by decide) (by decide) hK)
  · exact four_get (P := fun i u => LabM W2 u (markT i)) hvl hm hf (fun i u hu => trLab _ u (by exact (hp i u hu).1)) (fun u hu => trLab _ u (h4 u hu).1) i u hu
  · by_cases hi : i < vals.length
    · rw [List.getElem?_append_left hi] at hu
      exact fun k e => hK k ((hp i u hu).2 k e)
    · rw [List.getElem?_append_right (by omega)] at hu
      exact (h4 u (List.mem_of_getElem? hu)).2
  · exact RowM.kept' tr hK h.book.sam (by decide) (by decide) (fun _ _ hu => hu.via tr (by decide) (by decide))
theorem KSt.addSam {w W W1 : World} {B base kb : Nat} {K Kc Kc' : Nat → Prop} {sv lv mv mv' : Value} {ns nl nm : Nat} {vals four : List Value} (h : KSt w W B base kb K Kc sv lv mv ns nl nm) (hrow : W.ownsRow 0 35 1 mv nm vals) (hil : In Kc mv) (hp : ∀ i u, vals[i]? = some u → SamM W u (1000 + ((i / 4 * 4 : Nat) : Int)) ∧ In Kc u) (hm : nm % 4 = 0) (hf : four.length = 4)
    (hg : W.grownBy W1 mv.ownBlock) (ho : W1.ownsRow 0 35 1 mv' (nm + 4) (vals ++ four)) (hK : ∀ k, Kc k → Kc' k) (hin : In Kc' mv') (h4 : ∀ u ∈ four, SamM W u (1000 + (nm : Int)) ∧ In Kc' u) (hs : ∀ k, Kc' k → K k ∨ base ≤ k) (hlt : ∀ k, Kc' k → k < W1.heap.size) :
    KSt w (W1.setCell ⟨kb, 2, none⟩ mv') B base kb K Kc' sv lv mv' ns nl (nm + 4) := by
  have hblk := h.book.blk
  have hkl : mv.ownBlock ≠ some kb := kb_types hblk hrow (by decide)
  have hkbs : kb < W.heap.size := (Array.getElem?_eq_some_iff.1 hblk).1
  have hkb1 : W1.heap[kb]? = some (.cells #[sv, lv, mv, .slice none 0 0] 29) := (hg.block kb hkbs (fun e => hkl e.symm)).trans hblk
  have hkB : B ≤ kb := by
    have := h.bb
    rcases h.sub kb h.book.kin with hk | hk
    · exact h.kb kb hk
    · omega
  have hlB : ∀ k, mv.ownBlock = some k → B ≤ k := fun k e => by
    have := h.bb
    rcases h.sub k (hil k e) with hk | hk
    · exact h.kb k hk
    · omega
  have hk2 : ∀ k, k ≠ kb → (W1.setCell ⟨kb, 2, none⟩ mv').heap[k]? = W1.heap[k]? := fun k hk => Below.heap_setCell W1 ⟨kb, 2, none⟩ mv' k hk
  have hsz : (W1.setCell ⟨kb, 2, none⟩ mv').heap.size = W1.heap.size := by simp
  have hbw : Below B W (W1.setCell ⟨kb, 2, none⟩ mv') := ((Below.refl B W).grown hg (by have := h.bb; have := h.size; omega) hlB).setCell hkB _
  have hbl2 : Blk (W1.setCell ⟨kb, 2, none⟩ mv') kb 29 ([sv, lv, mv, .slice none 0 0].set 2 mv') := Blk.set (xs := [sv, lv, mv, .slice none 0 0]) hkb1 2 mv'
  have tr : ∀ (b e s : Nat) (u : Value) (n : Nat) (xs : List Value), e ≠ 35 → e ≠ 29 → W.ownsRow b e s u n xs → (W1.setCell ⟨kb, 2, none⟩ mv').ownsRow b e s u n xs := fun b e s u n xs h1 h2 hu => own_kept hu fun k e' => (hk2 k (fun e2 => kb_types hblk hu h2 (by rw [e', e2]))).trans (hg.block k (World.ownsRow.lt hu k e').2 (fun e2 => own_types hu hrow h1 k e' e2.symm))
  generalize hW2 : W1.setCell ⟨kb, 2, none⟩ mv' = W2 at *
  have hvl : vals.length = nm := by have := hrow.1; omega
  have trSam : ∀ i u, (fun i u => SamM W u (1000 + (i : Int))) i u → SamM W2 u (1000 + (i : Int)) := fun i u hu => hu.via tr (by decide) (by decide)
  refine ⟨h.below.trans hbw, fun k hk hK2 => ?_, hs, by have := hg.size; have := h.size; omega, h.bb, ⟨fun k hk => by have := hlt k hk; omega, hK _ h.book.kin, hbl2, ?_, ?_, ⟨vals ++ four, own_kept ho fun k e => hk2 k (fun e' => kb_types hkb1 ho (by decide) (by rw [e, e'])), hin, fun i u hu => ⟨?_, ?_⟩⟩⟩, h.kb⟩
  · have h1 : k ≠ kb := fun e => by
      rcases h.sub kb h.book.kin with h2 | h2
      · exact hK2 (by rw [e]; exact h2)
      · omega
    have h3 : some k ≠ mv.ownBlock := fun e => by
      rcases h.sub k (hil k e.symm) with h2 | h2
      · exact hK2 h2
      · omega
    exact ((hk2 k h1).trans (hg.block k (by have := h.size; omega) h3)).trans (h.keep k hk hK2)
  · exact RowM.kept' tr hK h.book.ser (by decide) (by decide) (fun _ _ hu => hu.via tr (by decide) (by decide) (by decide) (by decide) hK)
  · exact RowM.kept' tr hK h.book.lab (by decide) (by decide) (fun _ _ hu => hu.via tr (by decide) (by decide))
  · exact four_get (P := fun i u => SamM W2 u (1000 + (i : Int))) hvl hm hf (fun i u hu => trSam _ u (by exact (hp i u hu).1)) (fun u hu => trSam _ u (h4 u hu).1) i u hu
  · by_cases hi : i < vals.length
    · rw [List.getElem?_append_left hi] at hu
      exact fun k e => hK k ((hp i u hu).2 k e)
    · rw [List.getElem?_append_right (by omega)] at hu
      exact (h4 u (List.mem_of_getElem? hu)).2
theorem KSt.addSer {w W W1 : World} {B base kb : Nat} {K Kc Kc' : Nat → Prop} {sv lv mv sv' : Value} {ns nl nm : Nat} {vals four : List Value} (h : KSt w W B base kb K Kc sv lv mv ns nl nm) (hrow : W.ownsRow 0 39 1 sv ns vals) (hil : In Kc sv) (hp : ∀ i u, vals[i]? = some u → SerM W Kc u (markT (i / 4 * 4)) ∧ In Kc u) (hm : ns % 4 = 0) (hf : four.length = 4)
    (hg : W.grownBy W1 sv.ownBlock) (ho : W1.ownsRow 0 39 1 sv' (ns + 4) (vals ++ four)) (hK : ∀ k, Kc k → Kc' k) (hin : In Kc' sv') (h4 : ∀ u ∈ four, SerM W Kc' u (markT ns) ∧ In Kc' u) (hs : ∀ k, Kc' k → K k ∨ base ≤ k) (hlt : ∀ k, Kc' k → k < W1.heap.size) :
    KSt w (W1.setCell ⟨kb, 0, none⟩ sv') B base kb K Kc' sv' lv mv (ns + 4) nl nm := by
  have hblk := h.book.blk
  have hkl : sv.ownBlock ≠ some kb := kb_types hblk hrow (by decide)
  have hkbs : kb < W.heap.size := (Array.getElem?_eq_some_iff.1 hblk).1
  have hkb1 : W1.heap[kb]? = some (.cells #[sv, lv, mv, .slice none 0 0] 29) := (hg.block kb hkbs (fun e => hkl e.symm)).trans hblk
  have hkB : B ≤ kb := by
    have := h.bb
    rcases h.sub kb h.book.kin with hk | hk
    · exact h.kb kb hk
    · omega
  have hlB : ∀ k, sv.ownBlock = some k → B ≤ k := fun k e => by
    have := h.bb
    rcases h.sub k (hil k e) with hk | hk
    · exact h.kb k hk
    · omega
  have hk2 : ∀ k, k ≠ kb → (W1.setCell ⟨kb, 0, none⟩ sv').heap[k]? = W1.heap[k]? := fun k hk => Below.heap_setCell W1 ⟨kb, 0, none⟩ sv' k hk
  have hsz : (W1.setCell ⟨kb, 0, none⟩ sv').heap.size = W1.heap.size := by simp
  have hbw : Below B W (W1.setCell ⟨kb, 0, none⟩ sv') := ((Below.refl B W).grown hg (by have := h.bb; have := h.size; omega) hlB).setCell hkB _
  have hbl2 : Blk (W1.setCell ⟨kb, 0, none⟩ sv') kb 29 ([sv, lv, mv, .slice none 0 0].set 0 sv') := Blk.set (xs := [sv, lv, mv, .slice none 0 0]) hkb1 0 sv'
  have tr : ∀ (b e s : Nat) (u : Value) (n : Nat) (xs : List Value), e ≠ 39 → e ≠ 29 → W.ownsRow b e s u n xs → (W1.setCell ⟨kb, 0, none⟩ sv').ownsRow b e s u n xs := fun b e s u n xs h1 h2 hu => own_kept hu fun k e' => (hk2 k (fun e2 => kb_types hblk hu h2 (by rw [e', e2]))).trans (hg.block k (World.ownsRow.lt hu k e').2 (fun e2 => own_types hu hrow h1 k e' e2.symm))
  generalize hW2 : W1.setCell ⟨kb, 0, none⟩ sv' = W2 at *
  have hvl : vals.length = ns := by have := hrow.1; omega
  have trSer : ∀ i u, (fun i u => SerM W Kc' u (markT i)) i u → SerM W2 Kc' u (markT i) := fun i u hu => hu.via tr (by decide) (by decide) (by decide) (by decide) (fun _ h => h)
  refine ⟨h.below.trans hbw, fun k hk hK2 => ?_, hs, by have := hg.size; have := h.size; omega, h.bb, ⟨fun k hk => by have := hlt k hk; omega, hK _ h.book.kin, hbl2, ⟨vals ++ four, own_kept ho fun k e => hk2 k (fun e' => kb_types hkb1 ho (by decide) (by rw [e, e'])), hin, fun i u hu => ⟨?_, ?_⟩⟩, ?_, ?_⟩, h.kb⟩
  · have h1 : k ≠ kb := fun e => by
      rcases h.sub kb h.book.kin with h2 | h2
      · exact hK2 (by rw [e]; exact h2)
      · omega
    have h3 : some k ≠ sv.ownBlock := fun e => by
      rcases h.sub k (hil k e.symm) with h2 | h2
      · exact hK2 h2
      · omega
    exact ((hk2 k h1).trans (hg.block k (by have := h.size; omega) h3)).trans (h.keep k hk hK2)
  · exact four_get (P := fun i u => SerM W2 Kc' u (markT i)) hvl hm hf (fun i u hu => trSer _ u (by exact SerM.more (hp i u hu).1 hK)) (fun u hu => trSer _ u (h4 u hu).1) i u hu
  · by_cases hi : i < vals.length
    · rw [List.getElem?_append_left hi] at hu
      exact fun k e => hK k ((hp i u hu).2 k e)
    · rw [List.getElem?_append_right (by omega)] at hu
      exact (h4 u (List.mem_of_getElem? hu)).2
  · exact RowM.kept' tr hK h.book.lab (by decide) (by decide) (fun _ _ hu => hu.via tr (by decide) (by decide))
  · exact RowM.kept' tr hK h.book.sam (by decide) (by decide) (fun _ _ hu => hu.via tr (by decide) (by decide))
end Go.Proofs.YtamcclcbmenjdaaGreatDoor

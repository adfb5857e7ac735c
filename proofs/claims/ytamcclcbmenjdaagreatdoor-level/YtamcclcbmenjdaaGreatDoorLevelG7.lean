/- 'choirkeep.Level', for any list of steps (100 of them are done): when all are up, nothing is under way, and each has told each other one, all have the same, and compacted logs are the same bytes. The first form's statement and its card: no condition beside the row's own. -/
import Derived.Test.YtamcclcbmenjdaaGreatDoorLevelG6
import Derived.Test.YtamcclcbmenjdaaGreatDoorLevelG1
import Derived.Test.YtamcclcbmenjdaaGreatDoorLevelG2
import Derived.Test.YtamcclcbmenjdaaGreatDoorProg
import Derived.WalkLawsBesides
/- A heap, pure: what container/heap's loops keep. -/
namespace Go.Proofs.YtamcclcbmenjdaaGreatDoor.Hp

variable {α : Type}
/-- f with the places i and j turned round. -/
def swp (f : Nat → α) (i j : Nat) : Nat → α := fun k => if k = i then f j else if k = j then f i else f k
def IsHeap (le : α → α → Prop) (f : Nat → α) (n : Nat) : Prop := ∀ k, 0 < k → k < n → le (f ((k - 1) / 2)) (f k)
structure UpInv (le : α → α → Prop) (f : Nat → α) (n j : Nat) : Prop where
  rest : ∀ k, 0 < k → k < n → k ≠ j → le (f ((k - 1) / 2)) (f k)
  over : 0 < j → ∀ k, 0 < k → k < n → (k - 1) / 2 = j → le (f ((j - 1) / 2)) (f k)
structure DownInv (le : α → α → Prop) (f : Nat → α) (n i : Nat) : Prop where
  rest : ∀ k, 0 < k → k < n → (k - 1) / 2 ≠ i → le (f ((k - 1) / 2)) (f k)
  over : 0 < i → ∀ k, 0 < k → k < n → (k - 1) / 2 = i → le (f ((i - 1) / 2)) (f k)

theorem up_start {le : α → α → Prop} {f g : Nat → α} {n : Nat} (h : IsHeap le f n) (hg : ∀ k, k < n → g k = f k) : UpInv le g (n + 1) n := by
  refine ⟨fun k h0 hk hne => ?_, fun h0 k hk0 hk he => by omega⟩
  rw [hg _ (by omega), hg _ (by omega)]; exact h k h0 (by omega)
theorem up_step {le : α → α → Prop} (tot : ∀ a b, le a b ∨ le b a) (tr : ∀ {a b c}, le a b → le b c → le a c) {f : Nat → α} {n j : Nat} (h : UpInv le f n j) (hj : j < n) (h0 : 0 < j) (hlt : ¬ le (f ((j - 1) / 2)) (f j)) : UpInv le (swp f ((j - 1) / 2) j) n ((j - 1) / 2) := by
  have hle : le (f j) (f ((j - 1) / 2)) := (tot _ _).resolve_right hlt
  refine ⟨fun k hk0 hk hne => ?_, fun hp0 k hk0 hk he => ?_⟩
  · unfold swp
    by_cases e1 : k = j
    · subst e1
      rw [if_pos rfl, if_neg (by omega), if_pos rfl]; exact hle
    · rw [if_neg hne, if_neg e1]
      by_cases e2 : (k - 1) / 2 = (j - 1) / 2
      · rw [if_pos e2]
        have := h.rest k hk0 hk e1
        rw [e2] at this
        exact tr hle this
      · rw [if_neg e2]
        by_cases e3 : (k - 1) / 2 = j
        · rw [if_pos e3]; exact h.over h0 k hk0 hk e3
        · rw [if_neg e3]; exact h.rest k hk0 hk e1
  · unfold swp
    rw [if_neg (by omega), if_neg (by omega)]
    have hpp := h.rest ((j - 1) / 2) hp0 (by omega) (by omega)
    rw [if_neg (by omega)]
    by_cases e1 : k = j
    · rw [if_pos e1]; exact hpp
    · rw [if_neg e1]
      have := h.rest k hk0 hk e1
      rw [he] at this
      exact tr hpp this
theorem up_done {le : α → α → Prop} {f : Nat → α} {n j : Nat} (h : UpInv le f n j) (hd : j = 0 ∨ le (f ((j - 1) / 2)) (f j)) : IsHeap le f n := fun k h0 hk => by
  by_cases e : k = j
  · subst e
    rcases hd with hd | hd
    · omega
    · exact hd
  · exact h.rest k h0 hk e
theorem down_start {le : α → α → Prop} {f g : Nat → α} {n : Nat} (h : IsHeap le f (n + 1)) (hg : ∀ k, 0 < k → k < n → g k = f k) : DownInv le g n 0 := by
  refine ⟨fun k h0 hk hne => ?_, fun h0 => by omega⟩
  rw [hg _ (by omega) (by omega), hg _ (by omega) (by omega)]; exact h k h0 (by omega)
theorem down_step {le : α → α → Prop} (tot : ∀ a b, le a b ∨ le b a) {f : Nat → α} {n i c : Nat} (h : DownInv le f n i) (hc : c = 2 * i + 1 ∨ c = 2 * i + 2) (hcn : c < n) (hmin : ∀ d, d < n → (d = 2 * i + 1 ∨ d = 2 * i + 2) → le (f c) (f d)) (hlt : ¬ le (f i) (f c)) : DownInv le (swp f i c) n c := by
  have hle : le (f c) (f i) := (tot _ _).resolve_right hlt
  refine ⟨fun k hk0 hk hne => ?_, fun hp0 k hk0 hk he => ?_⟩
  · unfold swp
    by_cases e1 : (k - 1) / 2 = i
    · rw [if_pos e1]
      by_cases e2 : k = c
      · subst e2
        rw [if_neg (by omega), if_pos rfl]; exact hle
      · rw [if_neg (by omega), if_neg e2]
        exact hmin k hk (by omega)
    · rw [if_neg e1, if_neg (by omega)]
      by_cases e2 : k = i
      · subst e2
        rw [if_pos rfl]
        exact h.over hk0 c (by omega) hcn (by omega)
      · rw [if_neg e2]
        by_cases e3 : k = c
        · omega
        · rw [if_neg e3]; exact h.rest k hk0 hk e1
  · unfold swp
    have e : (c - 1) / 2 = i := by omega
    rw [if_pos e, if_neg (by omega), if_neg (by omega)]
    have := h.rest k hk0 hk (by omega)
    rw [he] at this; exact this
theorem down_done {le : α → α → Prop} {f : Nat → α} {n i : Nat} (h : DownInv le f n i) (hd : ∀ k, k < n → (k = 2 * i + 1 ∨ k = 2 * i + 2) → le (f i) (f k)) : IsHeap le f n := fun k h0 hk => by
  by_cases e : (k - 1) / 2 = i
  · rw [e]; exact hd k hk (by omega)
  · exact h.rest k h0 hk e
theorem heap_min {le : α → α → Prop} (tot : ∀ a b, le a b ∨ le b a) (tr : ∀ {a b c}, le a b → le b c → le a c) {f : Nat → α} {n : Nat} (h : IsHeap le f n) : ∀ k, k < n → le (f 0) (f k) := by
  intro k
  induction k using Nat.strongRecOn with
  | _ k ih =>
    intro hk
    by_cases e : k = 0
    · subst e; exact (tot _ _).elim id id
    · exact tr (ih ((k - 1) / 2) (by omega) (by omega)) (h k (by omega) hk)
/-- A list with two places turned round: it has the same members, as often. -/
theorem set_swap_perm (l : List α) (i j : Nat) (a b : α) (ha : l[i]? = some a) (hb : l[j]? = some b) : ((l.set i b).set j a).Perm l := by
  obtain ⟨hi, e1⟩ := List.getElem?_eq_some_iff.1 ha
  obtain ⟨hj, e2⟩ := List.getElem?_eq_some_iff.1 hb
  have h := Array.swap_perm (xs := l.toArray) (i := i) (j := j) (by simpa using hi) (by simpa using hj)
  have e : (l.toArray.swap i j (by simpa using hi) (by simpa using hj)).toList = (l.set i b).set j a := by
    rw [Array.swap_def]
    simp [e1, e2]
  have h2 := h.toList
  rw [e] at h2
  exact h2
end Go.Proofs.YtamcclcbmenjdaaGreatDoor.Hp

/- A batch of the call's own memory, each list in a block of its own. -/
namespace Go.Proofs.YtamcclcbmenjdaaGreatDoor
open Go.RowKit Go.Lib

/-- v lives in no block of o's. -/
def Aside (v o : Value) : Prop := ∀ k, v.ownBlock = some k → o.ownBlock ≠ some k
/-- The lists of a row of series lie in blocks of their own. -/
def Apt (vals : List (Value × Value)) : Prop := vals.Pairwise fun p q => Aside p.1 q.1 ∧ Aside p.2 q.2
/-- A batch of the call's own memory, each list in a block of its own. -/
def FreshD (w : World) (base : Nat) (v : Value) (bs : List Ser) : Prop :=
  ∃ vals, w.ownsRow base 38 2 v bs.length (serCells vals) ∧ Sers w base vals bs ∧ Apt vals
theorem FreshD.fresh {w : World} {base : Nat} {v : Value} {bs : List Ser} (h : FreshD w base v bs) : Fresh w base v bs := by
  obtain ⟨vals, h1, h2, _⟩ := h
  exact ⟨vals, h1, h2⟩
theorem FreshD.batchAt {base : Nat} {w : World} {v : Value} {bs : List Ser} (h : FreshD w base v bs) (hr : ∀ s ∈ bs, ∀ x ∈ s.2, -9223372036854775808 ≤ x.1 ∧ x.1 ≤ 9223372036854775807 ∧ x.2 ≤ 18446744073709551615) : BatchAt w w.heap.size v bs := h.fresh.batchAt hr
/-- One series more, its lists in blocks that were not there. -/
theorem Apt.snoc {w : World} {base N : Nat} {vals : List (Value × Value)} {bs : List Ser} {p : Value × Value} (h : Apt vals) (hs : Sers w base vals bs) (hN : w.heap.size ≤ N) (h1 : ∀ k, p.1.ownBlock = some k → N ≤ k) (h2 : ∀ k, p.2.ownBlock = some k → N ≤ k) : Apt (vals ++ [p]) := by
  refine List.pairwise_append.2 ⟨h, List.pairwise_singleton _ _, fun a ha q hq => ?_⟩
  rw [List.mem_singleton.1 hq]
  obtain ⟨i, hi, e⟩ := List.mem_iff_getElem.1 ha
  have hai : vals[i]? = some a := by rw [List.getElem?_eq_getElem hi, e]
  obtain ⟨u, hu⟩ : ∃ u, bs[i]? = some u := ⟨_, List.getElem?_eq_getElem (by rw [← hs.1]; exact hi)⟩
  have hr := hs.2 i a u hai hu
  exact ⟨fun k e e' => by have h5 := (World.ownsRow.lt hr.1 k e).2; have h6 := h1 k e'; omega, fun k e e' => by have h5 := (World.ownsRow.lt hr.2 k e).2; have h6 := h2 k e'; omega⟩
theorem FreshD.kept {w w' : World} {base : Nat} {v : Value} {bs : List Ser} (h : FreshD w base v bs) (hk : ∀ k, base ≤ k → k < w.heap.size → w'.heap[k]? = w.heap[k]?) : FreshD w' base v bs := by
  obtain ⟨vals, h1, h2, h3⟩ := h
  exact ⟨vals, own_kept h1 fun k e => hk k (World.ownsRow.lt h1 k e).1 (World.ownsRow.lt h1 k e).2, h2.kept hk, h3⟩
theorem FreshD.mono {w : World} {base base' : Nat} {v : Value} {bs : List Ser} (h : FreshD w base v bs) (hb : base' ≤ base) : FreshD w base' v bs := by
  obtain ⟨vals, h1, h2, h3⟩ := h
  exact ⟨vals, own_mono h1 hb, ⟨h2.1, fun i p x hp hx => ⟨own_mono (h2.2 i p x hp hx).1 hb, own_mono (h2.2 i p x hp hx).2 hb⟩⟩, h3⟩
theorem FreshD.shape {w : World} {base : Nat} {v : Value} {bs : List Ser} (h : FreshD w base v bs) : ∃ a c, v = .slice a bs.length c := by
  obtain ⟨vals, h1, _⟩ := h
  exact own_shape h1
end Go.Proofs.YtamcclcbmenjdaaGreatDoor

/- Check of any number of lists. -/
namespace Go.Proofs.YtamcclcbmenjdaaGreatDoor
open Go.RowKit Go.Lib

/-- The error of a list of series: 1 no batch, 2 beyond the limits, 0 none. -/
def Code (bs : List Ser) (n : Nat) : Prop := (n = 1 ∧ ¬ BatchOk bs) ∨ (n = 2 ∧ BatchOk bs ∧ ¬ LimitsOk bs) ∨ (n = 0 ∧ BatchOk bs ∧ LimitsOk bs)
/-- The error of several lists of series. -/
def CodeAll (bss : List (List Ser)) (n : Nat) : Prop := (n = 1 ∧ ¬ ∀ bs ∈ bss, BatchOk bs) ∨ (n = 2 ∧ (∀ bs ∈ bss, BatchOk bs) ∧ ¬ ∀ bs ∈ bss, LimitsOk bs) ∨ (n = 0 ∧ (∀ bs ∈ bss, BatchOk bs) ∧ ∀ bs ∈ bss, LimitsOk bs)
theorem mem_get {bss : List (List Ser)} {P : List Ser → Prop} (h : ∀ i bs, i < bss.length → bss[i]? = some bs → P bs) : ∀ bs ∈ bss, P bs := fun bs hb => by
  obtain ⟨i, hi, e⟩ := List.mem_iff_getElem.1 hb
  exact h i bs hi (by rw [List.getElem?_eq_getElem hi, e])
set_option maxRecDepth 100000 in
set_option maxHeartbeats 400000 in
theorem checks_any (B bb bo cap : Nat) (bss : List (List Ser)) (w : World) (hc : ∀ i bs, bss[i]? = some bs → ∃ v, w.cell? ⟨bb, bo + i, none⟩ = some v ∧ BatchAt w B v bs) (hbb : bb < w.heap.size) (hB : B ≤ w.heap.size)
    (hsm : ∀ bs ∈ bss, Small bs) (hlen : bss.length ≤ 1000) :
    Calls Tryz.prog 72 #[.slice (some ⟨bb, bo, none⟩) bss.length cap] w fun e w' => (∃ n : Nat, e = .returned (.int .i64 n) ∧ CodeAll bss n) ∧ Below w.heap.size w w' := by
  have HC := hide hc
  have HSm := hide hsm
  clear hc hsm
  go_enter Tryz.func72, Tryz.ntmps72
  go_wp2
  go_loopw [4, 9] (fun _ i wr => ∃ k : Nat, k ≤ bss.length ∧ i = .int .i64 k ∧ Below w.heap.size w wr ∧ Hid (∀ i bs, i < k → bss[i]? = some bs → BatchOk bs)) (fun _ i _ => bss.length - (intOf i).toNat)
  case atStart => exact ⟨0, Nat.zero_le _, rfl, Below.refl _ _, fun i x h => by omega⟩
  case round =>
    obtain ⟨k, hk, rfl, hbl, HR⟩ := hrel
    have hsz := hbl.size
    have HBl := hide hbl
    by_cases hlt : k < bss.length
    · obtain ⟨bs, hy⟩ : ∃ y, bss[k]? = some y := ⟨_, List.getElem?_eq_getElem hlt⟩
      obtain ⟨v, c1, hv⟩ := HC.out k bs hy
      have m1 := (hbl.cell (p := ⟨bb, bo + k, none⟩) hbb).trans c1
      have C1 := hide (isBatch_any B v bs wr (hv.below hbl hB) (by omega) (HSm.out bs (List.mem_of_getElem? hy)))
      obtain ⟨a, c, rfl, _⟩ := id hv
      have HY := hide hy
      clear hy hv c1 hbl
      go_wp2_with fail
      refine C1.out.mono ?_
      rintro e w1 ⟨⟨r1, rfl, hr1⟩, hb1⟩
      have HB1 := hide (HBl.out.trans (hb1.mono hsz))
      cases r1 with
      | false =>
        have hno : CodeAll bss 1 := .inl ⟨rfl, fun h => by have := hr1.2 (h bs (List.mem_of_getElem? HY.out)); cases this⟩
        have HNo := hide hno
        clear hno hr1 hb1 m1
        go_wp2
        go_ret
        exact ⟨⟨1, rfl, HNo.out⟩, HB1.out⟩
      | true =>
        have HR1 := hide (hr1.1 rfl)
        clear hr1 hb1 m1 C1
        go_wp2
        go_roundw
        case rel => exact ⟨k + 1, by omega, by go_num, HB1.out, fun i x hi hx => by
            by_cases he : i = k
            · subst he; have h := HY.out; rw [hx] at h; cases h; exact HR1.out
            · exact HR.out i x (by omega) hx⟩
        case measure => simp [intOf]; omega
    · have HA : Hid (∀ bs ∈ bss, BatchOk bs) := mem_get fun i bs hi hx => HR.out i bs (by omega) hx
      clear hbl HR
      go_wp2
      go_loopw [6, 19] (fun _ i wr => ∃ k : Nat, k ≤ bss.length ∧ i = .int .i64 k ∧ Below w.heap.size w wr ∧ Hid (∀ i bs, i < k → bss[i]? = some bs → LimitsOk bs)) (fun _ i _ => bss.length - (intOf i).toNat)
      case atStart => exact ⟨0, Nat.zero_le _, rfl, HBl.out, fun i x h => by omega⟩
      case round =>
        obtain ⟨k, hk, rfl, hbl, HR⟩ := hrel
        have hsz := hbl.size
        have HBl := hide hbl
        by_cases hlt : k < bss.length
        · obtain ⟨bs, hy⟩ : ∃ y, bss[k]? = some y := ⟨_, List.getElem?_eq_getElem hlt⟩
          obtain ⟨v, c1, hv⟩ := HC.out k bs hy
          have m1 := (hbl.cell (p := ⟨bb, bo + k, none⟩) hbb).trans c1
          have C1 := hide (withinLimits_any B v bs wr (hv.below hbl hB) (by omega) (HSm.out bs (List.mem_of_getElem? hy)).series)
          obtain ⟨a, c, rfl, _⟩ := id hv
          have HY := hide hy
          clear hy hv c1 hbl
          go_wp2_with fail
          refine C1.out.mono ?_
          rintro e w1 ⟨⟨r1, rfl, hr1⟩, hb1⟩
          have HB1 := hide (HBl.out.trans (hb1.mono hsz))
          cases r1 with
          | false =>
            have hno : CodeAll bss 2 := .inr (.inl ⟨rfl, HA.out, fun h => by have := hr1.2 (h bs (List.mem_of_getElem? HY.out)); cases this⟩)
            have HNo := hide hno
            clear hno hr1 hb1 m1
            go_wp2
            go_ret
            exact ⟨⟨2, rfl, HNo.out⟩, HB1.out⟩
          | true =>
            have HR1 := hide (hr1.1 rfl)
            clear hr1 hb1 m1 C1
            go_wp2
            go_roundw
            case rel => exact ⟨k + 1, by omega, by go_num, HB1.out, fun i x hi hx => by
                by_cases he : i = k
                · subst he; have h := HY.out; rw [hx] at h; cases h; exact HR1.out
                · exact HR.out i x (by omega) hx⟩
            case measure => simp [intOf]; omega
        · have hno : CodeAll bss 0 := .inr (.inr ⟨rfl, HA.out, mem_get fun i bs hi hx => HR.out i bs (by omega) hx⟩)
          have HNo := hide hno
          clear hno hbl HR
          go_wp2
          go_ret
          exact ⟨⟨0, rfl, HNo.out⟩, HBl.out⟩
/-- One list of series, handed over in the block bb. -/
theorem check_any (B bb : Nat) (v : Value) (bs : List Ser) (w : World) (hc : w.cell? ⟨bb, 0, none⟩ = some v) (hS : BatchAt w B v bs) (hbb : bb < w.heap.size) (hB : B ≤ w.heap.size) (hsm : Small bs) :
    Calls Tryz.prog 72 #[.slice (some ⟨bb, 0, none⟩) 1 1] w fun e w' => (∃ n : Nat, e = .returned (.int .i64 n) ∧ Code bs n) ∧ Below w.heap.size w w' := by
  refine (checks_any B bb 0 1 [bs] w (fun i x hx => ?_) hbb hB (fun x hx => by rw [List.mem_singleton.1 hx]; exact hsm) (by simp)).mono ?_
  · cases i with
    | zero => cases hx; exact ⟨v, hc, hS⟩
    | succ i => simp at hx
  · rintro e w' ⟨⟨n, rfl, hn⟩, hb⟩
    refine ⟨⟨n, rfl, ?_⟩, hb⟩
    simpa [CodeAll, Code] using hn
end Go.Proofs.YtamcclcbmenjdaaGreatDoor

/- frame.appendVarint's contract. -/
namespace Go.Proofs.YtamcclcbmenjdaaGreatDoor
open Go.RowKit

theorem Tryz.infoU8 : (Tryz.prog.info? 5).map (fun i => (i.zero, i.size, i.bytes)) = some (some (.int .u8 0), 1, 1) := by kernel_rfl

/-- What the call of a function that appends bytes to a slice of its caller's own leaves. -/
def Appended (base : Nat) (v : Value) (xs ys : List UInt8) (w : World) (v' : Value) (w' : World) : Prop :=
  w'.ownsRow base 5 1 v' (xs.length + ys.length) (Pl.Bs (xs ++ ys)) ∧ w.grownBy w' v.ownBlock ∧ Heir w v v'
def Bytes (base : Nat) (w : World) (v : Value) (xs : List UInt8) : Prop := w.ownsRow base 5 1 v xs.length (Pl.Bs xs)

theorem oneB (b : Int) : ∀ u ∈ [Value.int .u8 b], u.oneCell' = true := by intro u hu; simp at hu; subst hu; rfl

theorem varint_step {n f m : Nat} {ys : List UInt8} (h : Hid (m < 128 ^ (f + 1))) (hlt : 127 < m) (HV : Hid (Pl.varint n = ys ++ Pl.varintF f m)) :
    ∃ f', f = f' + 1 ∧ Hid (m / 128 < 128 ^ (f' + 1)) ∧ Hid (Pl.varint n = (ys ++ [UInt8.ofNat (m % 128 + 128)]) ++ Pl.varintF f' (m / 128)) := by
  cases f with
  | zero => have := h.out; omega
  | succ f => 
    refine ⟨f, rfl, ?_, ?_⟩
    · show m / 128 < 128 ^ (f + 1)
      have h' : m < 128 ^ (f + 1) * 128 := by rw [← Nat.pow_succ]; exact h.out
      omega
    · show Pl.varint n = _
      rw [HV.out, Pl.varintF_big f m (by omega)]; simp
/-- One byte more: what an append's law leaves, in the words of 'Bytes'. -/
theorem bytes_step {base : Nat} {w wr w1 : World} {v o v' : Value} {zs : List UInt8} {ob : Obj} {n' : Nat} (c : Int) (hg : w.grownBy wr v.ownBlock) (hh : Heir w v o)
    (hown' : w1.ownsRow base 5 1 v' n' (Pl.Bs zs ++ [.int .u8 c])) (hgrow : (wr.alloc ob).grownBy w1 o.ownBlock) (hheir : Heir (wr.alloc ob) o v') (b : UInt8) (hb : (b.toNat : Int) = c) :
    Bytes base w1 v' (zs ++ [b]) ∧ w.grownBy w1 v.ownBlock ∧ Heir w v v' := by
  refine ⟨?_, grownBy_trans hg (grownBy_alloc_then hgrow) hh, hh.trans hheir.of_alloc hg.size⟩
  unfold Bytes
  have hn : n' = (zs ++ [b]).length := by have := hown'.1; simp [Pl.Bs_length] at this; simp [this]
  rw [Pl.Bs_append, show Pl.Bs [b] = [.int .u8 c] by simp [Pl.Bs, Pl.B, hb], ← hn]
  exact hown'

set_option maxRecDepth 100000 in
set_option maxHeartbeats 400000 in
theorem appendVarint_any (base : Nat) (v : Value) (xs : List UInt8) (n : Nat) (w : World) (hown : Bytes base w v xs) (hn : n ≤ 9223372036854775807) (hx : xs.length ≤ 1099511627776) (hb : base ≤ w.heap.size) :
    Calls Tryz.prog 111 #[v, .int .i64 n] w fun e w' => ∃ v', e = .returned v' ∧ Bytes base w' v' (xs ++ Pl.varint n) ∧ w.grownBy w' v.ownBlock ∧ Heir w v v' := by
  obtain ⟨i0, hi, hz0, hz1, hz2⟩ := info_parts Tryz.infoU8
  go_enter Tryz.func111, Tryz.ntmps111
  go_wp2
  go_loopw [0, 1] (fun o q wr => ∃ (f m : Nat) (ys : List UInt8), m ≤ 9223372036854775807 ∧ Hid (m < 128 ^ (f + 1)) ∧ q = .int .i64 m ∧ Bytes base wr o (xs ++ ys) ∧ w.grownBy wr v.ownBlock ∧ Heir w v o ∧ ys.length + f ≤ 9 ∧ Hid (Pl.varint n = ys ++ Pl.varintF f m)) (fun _ q _ => (intOf q).toNat)
  case atStart => exact ⟨9, n, [], by omega, by show n < 128 ^ 10; omega, rfl, by simpa using hown, grownBy_refl _ _, Heir.refl _ _, by simp, rfl⟩
  case round =>
    obtain ⟨f, m, ys, hm, hmf, rfl, hbs, hg, hh, hl, HV⟩ := hrel
    have hand := Pl.and127_i64 m (by omega)
    have hor : bits .or .i64 ((m : Int) % 128) 128 = (m : Int) % 128 + 128 := by have := Pl.or128_i64 (m % 128) (by omega); simpa using this
    by_cases hlt : 127 < m
    · go_wp2_with (first | (at_builtin; refine wpList_append_heir _ rfl (.tmp 7) (.tmp 12) 83 rfl base 5 i0 (.int .u8 0) 1 1 Tryz.underlying83 hi hz0 hz1 hz2 rfl (by decide) _ _ _ rfl (hbs.alloc _) ⟨wr.heap.size, 0, none⟩ 1 1 [.int .u8 ((m : Int) % 128 + 128)] rfl rfl ?c1 ?c2 ?c3 ?c4 ?c5 ?_))
      case c1 => exact cell_one_new _ _ _
      case c2 => exact oneB _
      case c3 => simp; unfold maxLen; omega
      case c4 => simp; omega
      case c5 => have := hg.size; simp; omega
      intro v' w1 hown' hgrow hheir
      have hstep := varint_step hmf hlt HV
      have R := bytes_step ((m : Int) % 128 + 128) hg hh hown' hgrow hheir (UInt8.ofNat (m % 128 + 128)) (by rw [Pl.u8_ofNat _ (by omega)]; omega)
      clear hown' hgrow hheir hbs hg hh HV hmf
      obtain ⟨f', rfl, hmf', HV'⟩ := hstep
      go_wp2
      go_roundw
      case rel => exact ⟨f', m / 128, ys ++ [UInt8.ofNat (m % 128 + 128)], by omega, hmf', by go_num, by rw [← List.append_assoc]; exact R.1, R.2.1, R.2.2, by simp; omega, HV'⟩
      case measure => simp [intOf]; omega
    · go_wp2_with (first | (at_builtin; refine wpList_append_heir _ rfl (.tmp 16) (.tmp 19) 83 rfl base 5 i0 (.int .u8 0) 1 1 Tryz.underlying83 hi hz0 hz1 hz2 rfl (by decide) _ _ _ rfl (hbs.alloc _) ⟨wr.heap.size, 0, none⟩ 1 1 [.int .u8 (m : Int)] rfl rfl ?c1 ?c2 ?c3 ?c4 ?c5 ?_))
      case c1 => exact cell_one_new _ _ _
      case c2 => exact oneB _
      case c3 => simp; unfold maxLen; omega
      case c4 => simp; omega
      case c5 => have := hg.size; simp; omega
      intro v' w1 hown' hgrow hheir
      have R := bytes_step (m : Int) hg hh hown' hgrow hheir (UInt8.ofNat m) (by rw [Pl.u8_ofNat _ (by omega)])
      clear hown' hgrow hheir hbs hg hh
      go_wp2
      go_ret
      exact ⟨_, rfl, by rw [HV.out, Pl.varintF_small f m (by omega), ← List.append_assoc]; exact R.1, R.2.1, R.2.2⟩
end Go.Proofs.YtamcclcbmenjdaaGreatDoor

/- Plain: bits in bytes, the highest first. -/
namespace Go.Proofs.YtamcclcbmenjdaaGreatDoor.Pl

def byteOf (f : Nat → Bool) : Nat :=
  (f 0).toNat * 128 + (f 1).toNat * 64 + (f 2).toNat * 32 + (f 3).toNat * 16 + (f 4).toNat * 8 + (f 5).toNat * 4 + (f 6).toNat * 2 + (f 7).toNat
theorem byteOf_lt (f : Nat → Bool) : byteOf f < 256 := by
  unfold byteOf
  have h : ∀ b : Bool, b.toNat ≤ 1 := fun b => by cases b <;> decide
  have := h (f 0); have := h (f 1); have := h (f 2); have := h (f 3); have := h (f 4); have := h (f 5); have := h (f 6); have := h (f 7)
  omega
theorem byteOf_congr {f g : Nat → Bool} (h : ∀ i, i < 8 → f i = g i) : byteOf f = byteOf g := by
  unfold byteOf
  rw [h 0 (by omega), h 1 (by omega), h 2 (by omega), h 3 (by omega), h 4 (by omega), h 5 (by omega), h 6 (by omega), h 7 (by omega)]
theorem byteOf_set (g : Nat → Bool) (b : Bool) (m : Nat) (hm : m < 8) (hz : ∀ i, m ≤ i → g i = false) :
    byteOf g % 2 ^ (8 - m) = 0 ∧ byteOf (fun i => if i = m then b else g i) = byteOf g + b.toNat * 2 ^ (7 - m) := by
  have h0 := hz 0; have h1 := hz 1; have h2 := hz 2; have h3 := hz 3; have h4 := hz 4; have h5 := hz 5; have h6 := hz 6; have h7 := hz 7
  have e : m = 0 ∨ m = 1 ∨ m = 2 ∨ m = 3 ∨ m = 4 ∨ m = 5 ∨ m = 6 ∨ m = 7 := by omega
  rcases e with rfl | rfl | rfl | rfl | rfl | rfl | rfl | rfl <;> simp at h0 h1 h2 h3 h4 h5 h6 h7 <;> simp [byteOf, *] <;> omega
/-- the byte number j of a list of bits -/
def byteAt (l : List Bool) (j : Nat) : UInt8 := UInt8.ofNat (byteOf fun i => l.getD (8 * j + i) false)
def pack (l : List Bool) : List UInt8 := (List.range ((l.length + 7) / 8)).map (byteAt l)
theorem pack_length (l : List Bool) : (pack l).length = (l.length + 7) / 8 := by simp [pack]
theorem pack_nil : pack [] = [] := rfl
theorem byteAt_toNat (l : List Bool) (j : Nat) : (byteAt l j).toNat = byteOf fun i => l.getD (8 * j + i) false := by
  have := byteOf_lt fun i => l.getD (8 * j + i) false
  simp only [byteAt, UInt8.toNat_ofNat']
  exact Nat.mod_eq_of_lt this

/-- What is there ahead of a bit: a byte more, where the last is full. -/
def roomy (l : List Bool) : List UInt8 := if l.length % 8 = 0 then pack l ++ [0] else pack l
theorem roomy_length (l : List Bool) : (roomy l).length = l.length / 8 + 1 := by
  unfold roomy; split <;> simp [pack_length] <;> omega
theorem roomy_get (l : List Bool) (j : Nat) (h : j < l.length / 8 + 1) : (roomy l)[j]? = some (byteAt l j) := by
  unfold roomy
  split
  · by_cases hj : j < (l.length + 7) / 8
    · rw [List.getElem?_append_left (by rw [pack_length]; exact hj)]
      simp [pack, hj]
    · rw [List.getElem?_append_right (by rw [pack_length]; omega), pack_length, show j - (l.length + 7) / 8 = 0 by omega]
      have : byteAt l j = 0 := by
        apply UInt8.toNat_inj.1
        rw [byteAt_toNat]
        have hz : ∀ i, l.getD (8 * j + i) false = false := fun i => by
          rw [List.getD_eq_getElem?_getD, List.getElem?_eq_none (by omega)]; rfl
        rw [byteOf_congr (g := fun _ => false) fun i _ => hz i]; rfl
      simp [this]
  · have hj : j < (l.length + 7) / 8 := by omega
    simp [pack, hj]

theorem getD_snoc (l : List Bool) (b : Bool) (k : Nat) : (l ++ [b]).getD k false = if k = l.length then b else l.getD k false := by
  simp only [List.getD_eq_getElem?_getD]
  by_cases h : k < l.length
  · rw [List.getElem?_append_left h, if_neg (by omega)]
  · by_cases h2 : k = l.length
    · subst h2; simp
    · rw [if_neg h2, List.getElem?_eq_none (by simp; omega), List.getElem?_eq_none (by omega)]

/-- The byte that the next bit goes into: its lower bits are 0, and the bit is added. -/
theorem byteAt_snoc (l : List Bool) (b : Bool) :
    (byteAt l (l.length / 8)).toNat % 2 ^ (8 - l.length % 8) = 0 ∧ (byteAt (l ++ [b]) (l.length / 8)).toNat = (byteAt l (l.length / 8)).toNat + b.toNat * 2 ^ (7 - l.length % 8) := by
  rw [byteAt_toNat, byteAt_toNat]
  have hz : ∀ i, l.length % 8 ≤ i → l.getD (8 * (l.length / 8) + i) false = false := fun i hi => by
    rw [List.getD_eq_getElem?_getD, List.getElem?_eq_none (by omega)]; rfl
  have hs : ∀ i, (l ++ [b]).getD (8 * (l.length / 8) + i) false = if i = l.length % 8 then b else l.getD (8 * (l.length / 8) + i) false := fun i => by
    rw [getD_snoc]
    by_cases h : i = l.length % 8
    · rw [if_pos h, if_pos (by omega)]
    · rw [if_neg h, if_neg (by omega)]
  rw [byteOf_congr fun i _ => hs i]
  exact byteOf_set _ b _ (Nat.mod_lt _ (by decide)) hz

theorem pack_snoc (l : List Bool) (b : Bool) (x : UInt8) (hx : (roomy l)[l.length / 8]? = some x) :
    pack (l ++ [b]) = (roomy l).set (l.length / 8) (UInt8.ofNat (x.toNat + b.toNat * 2 ^ (7 - l.length % 8))) ∧ x.toNat % 2 ^ (8 - l.length % 8) = 0 ∧ x.toNat + b.toNat * 2 ^ (7 - l.length % 8) < 256 := by
  rw [roomy_get l _ (by omega)] at hx
  cases hx
  obtain ⟨h1, h2⟩ := byteAt_snoc l b
  have hlt := (byteAt (l ++ [b]) (l.length / 8)).toNat_lt
  rw [h2] at hlt
  refine ⟨?_, h1, by omega⟩
  apply List.ext_getElem?
  intro j
  rw [List.getElem?_set]
  by_cases hj : j < l.length / 8 + 1
  · have hp : j < ((l ++ [b]).length + 7) / 8 := by simp; omega
    have e1 : (pack (l ++ [b]))[j]? = some (byteAt (l ++ [b]) j) := by simp only [pack]; rw [List.getElem?_map, List.getElem?_range hp]; rfl
    rw [e1]
    by_cases he : l.length / 8 = j
    · subst he
      rw [if_pos rfl, if_pos (by rw [roomy_length]; omega)]
      congr 1
      apply UInt8.toNat_inj.1
      rw [h2, UInt8.toNat_ofNat']
      exact (Nat.mod_eq_of_lt hlt).symm
    · rw [if_neg he, roomy_get l j hj]
      congr 1
      apply UInt8.toNat_inj.1
      rw [byteAt_toNat, byteAt_toNat]
      exact byteOf_congr fun i hi => by rw [getD_snoc, if_neg (by omega)]
  · rw [List.getElem?_eq_none (by rw [pack_length]; simp; omega), if_neg (by omega), List.getElem?_eq_none (by rw [roomy_length]; omega)]

/-- The lowest bits of n, the highest first. -/
def bitsOf (n : Nat) : Nat → List Bool
  | 0 => []
  | k + 1 => (n / 2 ^ k % 2 == 1) :: bitsOf n k
theorem bitsOf_length (n k : Nat) : (bitsOf n k).length = k := by induction k <;> simp [bitsOf, *]
end Go.Proofs.YtamcclcbmenjdaaGreatDoor.Pl

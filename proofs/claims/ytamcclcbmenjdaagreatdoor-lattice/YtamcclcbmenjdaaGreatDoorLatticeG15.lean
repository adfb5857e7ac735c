/- 'choirkeep.Lattice', for any three lists of raw samples: joins do not hang on order, grouping and how often; with bytes and without it is the same. The first form's statement and its card: no condition beside the row's own. -/
import Derived.Test.YtamcclcbmenjdaaGreatDoorLatticeG14
import Derived.Test.YtamcclcbmenjdaaGreatDoorProg
import Derived.Test.YtamcclcbmenjdaaGreatDoorLatticeG4
import Derived.Test.YtamcclcbmenjdaaGreatDoorLatticeG1
import Derived.WalkLawsBesides
/- choir.Join. -/
namespace Go.Proofs.YtamcclcbmenjdaaGreatDoor
open Go.RowKit Go.Lib

theorem limits_mem {bs : List Ser} (h : LimitsOk bs) : ∀ s ∈ bs, s.1.length ≤ 4 ∧ s.2.length ≤ 40 := fun s hs => by
  obtain ⟨i, hi, e⟩ := List.mem_iff_getElem.1 hs
  exact h.1 i s hi (by rw [List.getElem?_eq_getElem hi, e])
theorem samN_le {bs : List Ser} (h : ∀ s ∈ bs, s.2.length ≤ 40) : samN bs ≤ 40 * bs.length := by
  induction bs with
  | nil => simp [samN]
  | cons s r ih =>
    have h1 := h s (List.mem_cons_self ..)
    have h2 := ih fun x hx => h x (List.mem_cons_of_mem _ hx)
    have e : samN (s :: r) = s.2.length + samN r := by simp [samN]
    rw [e, List.length_cons]; omega
theorem fit_of {bs : List Ser} (h : BatchOk bs) (g : LimitsOk bs) : ∀ s ∈ bs, SerFit s := fun s hs => by
  rw [batchOk_iff] at h
  have h1 := h.1 s hs
  refine ⟨by have := (limits_mem g s hs).1; omega, fun t ht => ?_, SLt_cmp ((samplesOk_iff _).1 h1.2).2⟩
  obtain ⟨i, hi, e⟩ := List.mem_iff_getElem.1 ht
  have := h1.1.1 i t hi (by rw [List.getElem?_eq_getElem hi, e])
  exact ⟨Nat.le_trans this.2.1 (by decide), Nat.le_trans this.2.2 (by decide)⟩
theorem BatchAt.ranged {w : World} {B : Nat} {v : Value} {bs : List Ser} (h : BatchAt w B v bs) : ∀ s ∈ bs, Ranged s := fun s hs => by
  obtain ⟨i, hi, e⟩ := List.mem_iff_getElem.1 hs
  obtain ⟨a, c, rfl, -⟩ := id h
  obtain ⟨_, _, _, _, _, _, _, _, _, hS⟩ := batchGet h (j := i) (x := s) (by rw [List.getElem?_eq_getElem hi, e])
  exact hS.choose_spec.choose_spec.2.2.1
theorem BatchAt.wider {w : World} {B B' : Nat} {v : Value} {bs : List Ser} (h : BatchAt w B v bs) (hB : B ≤ B') : BatchAt w B' v bs := by
  obtain ⟨a, c, hv, hc, h2⟩ := h
  refine ⟨a, c, hv, hc, h2.imp id fun ⟨b, o, ha, hb, hcell⟩ => ⟨b, o, ha, by omega, fun i x hx => ?_⟩⟩
  obtain ⟨lv, sv, h1, h2, h3, h4⟩ := hcell i x hx
  exact ⟨lv, sv, h1, h2, h3.wider hB, h4.wider hB⟩
/-- What Join answers: the error and the join. -/
def JoinOf (a b : List Ser) (n : Nat) (j : List Ser) : Prop :=
  (n = 1 ∧ ¬ (BatchOk a ∧ BatchOk b)) ∨ (n = 2 ∧ BatchOk a ∧ BatchOk b ∧ ¬ (LimitsOk a ∧ LimitsOk b)) ∨ (BatchOk a ∧ BatchOk b ∧ LimitsOk a ∧ LimitsOk b ∧ IsJoin [a, b] j ∧ Code j n)
theorem two_all {a b : List Ser} {p : List Ser → Prop} : (∀ bs ∈ [a, b], p bs) ↔ p a ∧ p b := by simp
theorem two_get {a b : List Ser} {p : Nat → List Ser → Prop} (h0 : p 0 a) (h1 : p 1 b) : ∀ i bs, [a, b][i]? = some bs → p i bs := fun i bs h => by
  match i, h with
  | 0, h => simp at h; subst h; exact h0
  | 1, h => simp at h; subst h; exact h1
  | i + 2, h => simp at h

set_option maxRecDepth 100000 in
set_option maxHeartbeats 1000000 in
theorem join_any (W : World) (va vb : Value) (a b : List Ser) (ha : BatchAt W W.heap.size va a) (hb : BatchAt W W.heap.size vb b) (hsa : Small a) (hsb : Small b) :
    Calls Tryz.prog 52 #[va, vb] W fun e w' => ∃ n j, JoinOf a b n j ∧ Below W.heap.size W w' ∧ ((n = 0 ∧ ∃ jv, e = .returned (.tuple #[jv, .int .i64 0]) ∧ Fresh w' W.heap.size jv j) ∨ (n ≠ 0 ∧ e = .returned (.tuple #[.slice none 0 0, .int .i64 n]))) := by
  obtain ⟨aa, ac, rfl, -⟩ := id ha
  obtain ⟨ba, bc, rfl, -⟩ := id hb
  have C1 := hide (checks_any W.heap.size W.heap.size 0 2 [a, b] (W.alloc (.cells #[.slice aa a.length ac, .slice ba b.length bc] 39))
    (two_get ⟨_, World.cell?_alloc_new _ _ _ 0, ha.kept fun k hk => heap_alloc_old W _ hk⟩ ⟨_, World.cell?_alloc_new _ _ _ 1, hb.kept fun k hk => heap_alloc_old W _ hk⟩) (by simp) (by simp) (two_all.2 ⟨hsa, hsb⟩) (by simp))
  have HA := hide ha
  have HB := hide hb
  clear ha hb hsa hsb
  go_enter Tryz.func52, Tryz.ntmps52
  go_wp2_with fail
  refine C1.out.mono ?_
  rintro e w1 ⟨⟨n, rfl, hn⟩, hb1⟩
  have hb01 : Below W.heap.size W w1 := ((Below.refl _ _).alloc (Nat.le_refl _) _).trans (hb1.mono (by simp))
  have hs1 := hb01.size
  have HB1 := hide hb01
  have HC := hide hn
  clear C1 hb1 hb01 hn
  by_cases h0 : n = 0
  · subst h0
    obtain ⟨hok, hlim⟩ : (∀ bs ∈ [a, b], BatchOk bs) ∧ ∀ bs ∈ [a, b], LimitsOk bs := by
      rcases HC.out with ⟨h, _⟩ | ⟨h, _⟩ | ⟨_, h⟩
      · cases h
      · cases h
      · exact h
    have hA1 := HA.out.below HB1.out (Nat.le_refl _)
    have hB1 := HB.out.below HB1.out (Nat.le_refl _)
    have hfit : ∀ s ∈ ([a, b] : List (List Ser)).flatten, SerFit s ∧ Ranged s := fun s hs => by
      obtain ⟨l, hl, hs⟩ := List.mem_flatten.1 hs
      refine ⟨fit_of (hok l hl) (hlim l hl) s hs, ?_⟩
      rcases List.mem_cons.1 hl with e | hl
      · rw [e] at hs; exact HA.out.ranged s hs
      · rw [List.mem_singleton.1 hl] at hs; exact HB.out.ranged s hs
    have hla := (two_all.1 hlim).1
    have hlb := (two_all.1 hlim).2
    have hfl : ([a, b] : List (List Ser)).flatten.length ≤ 16 := by
      have h1 := hla.2; have h2 := hlb.2; simp; omega
    have hsam : samN ([a, b] : List (List Ser)).flatten ≤ 640 := by
      refine Nat.le_trans (samN_le fun s hs => ?_) (by omega)
      obtain ⟨l, hl, hs⟩ := List.mem_flatten.1 hs
      exact (limits_mem (hlim l hl) s hs).2
    have hrows : RowsR (w1.alloc (.cells #[.slice aa a.length ac, .slice ba b.length bc] 39)) (.slice (some ⟨w1.heap.size, 0, none⟩) 2 2) [a, b] :=
      ⟨_, _, rfl, two_get ⟨w1.heap.size, 0, aa, ac, rfl, by simp, World.cell?_alloc_new _ _ _ 0, (hA1.wider hs1).kept (fun k hk => heap_alloc_old w1 _ hk) |>.wider (by simp)⟩ ⟨w1.heap.size, 0, ba, bc, rfl, by simp, World.cell?_alloc_new _ _ _ 1, (hB1.wider hs1).kept (fun k hk => heap_alloc_old w1 _ hk) |>.wider (by simp)⟩⟩
    have C2 := hide (joinAll_any _ _ [a, b] hrows hok hfit (by simp) (by omega) (by omega))
    have HOk : Hid (BatchOk a ∧ BatchOk b ∧ LimitsOk a ∧ LimitsOk b) := ⟨(two_all.1 hok).1, (two_all.1 hok).2, hla, hlb⟩
    clear hA1 hB1 hfit hla hlb hfl hsam hrows hok hlim HA HB HC
    go_wp2_with fail
    refine C2.out.mono ?_
    rintro e w2 ⟨j, m, hj, hm, hb2, hr⟩
    have hb12 : Below W.heap.size W w2 := HB1.out.trans ((((Below.refl _ _).alloc (Nat.le_refl _) _).trans (hb2.mono (by simp))).mono hs1)
    have HB2 := hide hb12
    have HR : Hid (JoinOf a b m j) := .inr (.inr ⟨HOk.out.1, HOk.out.2.1, HOk.out.2.2.1, HOk.out.2.2.2, hj, hm⟩)
    clear C2 HOk hj hm hb12
    rcases hr with ⟨rfl, jv, rfl, hF⟩ | ⟨hm0, rfl⟩
    · have HF : Hid (Fresh w2 W.heap.size jv j) := by
        obtain ⟨vals, h1, h2⟩ := hF
        exact ⟨vals, own_mono h1 (by simp; omega), h2.1, fun i p x hp hx => ⟨own_mono (h2.2 i p x hp hx).1 (by simp; omega), own_mono (h2.2 i p x hp hx).2 (by simp; omega)⟩⟩
      clear hF hb2
      go_wp2
      go_ret2
      exact ⟨0, j, HR.out, HB2.out, .inl ⟨rfl, _, rfl, HF.out⟩⟩
    · clear hb2
      go_wp2
      go_ret2
      exact ⟨m, j, HR.out, HB2.out, .inr ⟨hm0, rfl⟩⟩
  · have h1 : ¬ (n : Int) = 0 := by omega
    have h2 : ((n : Int) == 0) = false := by simp [h0]
    have HR : Hid (JoinOf a b n []) := by
      rcases HC.out with ⟨rfl, h⟩ | ⟨rfl, h, g⟩ | ⟨rfl, _⟩
      · exact .inl ⟨rfl, fun g => h (two_all.2 g)⟩
      · exact .inr (.inl ⟨rfl, (two_all.1 h).1, (two_all.1 h).2, fun k => g (two_all.2 k)⟩)
      · exact absurd rfl h0
    go_wp2
    go_ret2
    exact ⟨n, [], HR.out, HB1.out, .inr ⟨h0, rfl⟩⟩
end Go.Proofs.YtamcclcbmenjdaaGreatDoor

/- frame.appendVarint's contract. -/
namespace Go.Proofs.YtamcclcbmenjdaaGreatDoor
open Go.RowKit

theorem Tryz.infoU8 : (Tryz.prog.info? 5).map (fun i => (i.zero, i.size, i.bytes)) = some (some (.int .u8 0), 1, 1) := by kernel_rfl

/-- What the call of a function that appends bytes to a slice of its caller's own leaves. -/
def Appended (base : Nat) (v : Value) (xs ys : List UInt8) (w : World) (v' : Value) (w' : World) : Prop :=
  w'.ownsRow base 5 1 v' (xs.length + ys.length) (Pl.Bs (xs ++ ys)) ∧ w.grownBy w' v.ownBlock ∧ Heir w v v'
def Bytes (base : Nat) (w : World) (v : Value) (xs : List UInt8) : Prop := w.ownsRow base 5 1 v xs.length (Pl.Bs xs)

theorem oneB (b : Int) : ∀ u ∈ [Value.int .u8 b], u.oneCell' = true := by intro u hu; simp at hu; subst hu; rfl

theorem varint_step {n f m : Nat} {ys : List UInt8} (h : Hid (m < 128 ^ (f + 1))) (hlt : 127 < m) (HV : Hid (Pl.varint n = ys ++ Pl.varintF f m)) :
    ∃ f', f = f' + 1 ∧ Hid (m / 128 < 128 ^ (f' + 1)) ∧ Hid (Pl.varint n = (ys ++ [UInt8.ofNat (m % 128 + 128)]) ++ Pl.varintF f' (m / 128)) := by
  cases f with
  | zero => have := h.out; omega
  | succ f => 
    refine ⟨f, rfl, ?_, ?_⟩
    · show m / 128 < 128 ^ (f + 1)
      have h' : m < 128 ^ (f + 1) * 128 := by rw [← Nat.pow_succ]; exact h.out
      omega
    · show Pl.varint n = _
      rw [HV.out, Pl.varintF_big f m (by omega)]; simp
/-- One byte more: what an append's law leaves, in the words of 'Bytes'. -/
theorem bytes_step {base : Nat} {w wr w1 : World} {v o v' : Value} {zs : List UInt8} {ob : Obj} {n' : Nat} (c : Int) (hg : w.grownBy wr v.ownBlock) (hh : Heir w v o)
    (hown' : w1.ownsRow base 5 1 v' n' (Pl.Bs zs ++ [.int .u8 c])) (hgrow : (wr.alloc ob).grownBy w1 o.ownBlock) (hheir : Heir (wr.alloc ob) o v') (b : UInt8) (hb : (b.toNat : Int) = c) :
    Bytes base w1 v' (zs ++ [b]) ∧ w.grownBy w1 v.ownBlock ∧ Heir w v v' := by
  refine ⟨?_, grownBy_trans hg (grownBy_alloc_then hgrow) hh, hh.trans hheir.of_alloc hg.size⟩
  unfold Bytes
  have hn : n' = (zs ++ [b]).length := by have := hown'.1; simp [Pl.Bs_length] at this; simp [this]
  rw [Pl.Bs_append, show Pl.Bs [b] = [.int .u8 c] by simp [Pl.Bs, Pl.B, hb], ← hn]
  exact hown'

set_option maxRecDepth 100000 in
set_option maxHeartbeats 400000 in
theorem appendVarint_any (base : Nat) (v : Value) (xs : List UInt8) (n : Nat) (w : World) (hown : Bytes base w v xs) (hn : n ≤ 9223372036854775807) (hx : xs.length ≤ 1099511627776) (hb : base ≤ w.heap.size) :
    Calls Tryz.prog 111 #[v, .int .i64 n] w fun e w' => ∃ v', e = .returned v' ∧ Bytes base w' v' (xs ++ Pl.varint n) ∧ w.grownBy w' v.ownBlock ∧ Heir w v v' := by
  obtain ⟨i0, hi, hz0, hz1, hz2⟩ := info_parts Tryz.infoU8
  go_enter Tryz.func111, Tryz.ntmps111
  go_wp2
  go_loopw [0, 1] (fun o q wr => ∃ (f m : Nat) (ys : List UInt8), m ≤ 9223372036854775807 ∧ Hid (m < 128 ^ (f + 1)) ∧ q = .int .i64 m ∧ Bytes base wr o (xs ++ ys) ∧ w.grownBy wr v.ownBlock ∧ Heir w v o ∧ ys.length + f ≤ 9 ∧ Hid (Pl.varint n = ys ++ Pl.varintF f m)) (fun _ q _ => (intOf q).toNat)
  case atStart => exact ⟨9, n, [], by omega, by show n < 128 ^ 10; omega, rfl, by simpa using hown, grownBy_refl _ _, Heir.refl _ _, by simp, rfl⟩
  case round =>
    obtain ⟨f, m, ys, hm, hmf, rfl, hbs, hg, hh, hl, HV⟩ := hrel
    have hand := Pl.and127_i64 m (by omega)
    have hor : bits .or .i64 ((m : Int) % 128) 128 = (m : Int) % 128 + 128 := by have := Pl.or128_i64 (m % 128) (by omega); simpa using this
    by_cases hlt : 127 < m
    · go_wp2_with (first | (at_builtin; refine wpList_append_heir _ rfl (.tmp 7) (.tmp 12) 83 rfl base 5 i0 (.int .u8 0) 1 1 Tryz.underlying83 hi hz0 hz1 hz2 rfl (by decide) _ _ _ rfl (hbs.alloc _) ⟨wr.heap.size, 0, none⟩ 1 1 [.int .u8 ((m : Int) % 128 + 128)] rfl rfl ?c1 ?c2 ?c3 ?c4 ?c5 ?_))
      case c1 => exact cell_one_new _ _ _
      case c2 => exact oneB _
      case c3 => simp; unfold maxLen; omega
      case c4 => simp; omega
      case c5 => have := hg.size; simp; omega
      intro v' w1 hown' hgrow hheir
      have hstep := varint_step hmf hlt HV
      have R := bytes_step ((m : Int) % 128 + 128) hg hh hown' hgrow hheir (UInt8.ofNat (m % 128 + 128)) (by rw [Pl.u8_ofNat _ (by omega)]; omega)
      clear hown' hgrow hheir hbs hg hh HV hmf
      obtain ⟨f', rfl, hmf', HV'⟩ := hstep
      go_wp2
      go_roundw
      case rel => exact ⟨f', m / 128, ys ++ [UInt8.ofNat (m % 128 + 128)], by omega, hmf', by go_num, by rw [← List.append_assoc]; exact R.1, R.2.1, R.2.2, by simp; omega, HV'⟩
      case measure => simp [intOf]; omega
    · go_wp2_with (first | (at_builtin; refine wpList_append_heir _ rfl (.tmp 16) (.tmp 19) 83 rfl base 5 i0 (.int .u8 0) 1 1 Tryz.underlying83 hi hz0 hz1 hz2 rfl (by decide) _ _ _ rfl (hbs.alloc _) ⟨wr.heap.size, 0, none⟩ 1 1 [.int .u8 (m : Int)] rfl rfl ?c1 ?c2 ?c3 ?c4 ?c5 ?_))
      case c1 => exact cell_one_new _ _ _
      case c2 => exact oneB _
      case c3 => simp; unfold maxLen; omega
      case c4 => simp; omega
      case c5 => have := hg.size; simp; omega
      intro v' w1 hown' hgrow hheir
      have R := bytes_step (m : Int) hg hh hown' hgrow hheir (UInt8.ofNat m) (by rw [Pl.u8_ofNat _ (by omega)])
      clear hown' hgrow hheir hbs hg hh
      go_wp2
      go_ret
      exact ⟨_, rfl, by rw [HV.out, Pl.varintF_small f m (by omega), ← List.append_assoc]; exact R.1, R.2.1, R.2.2⟩
end Go.Proofs.YtamcclcbmenjdaaGreatDoor

/- Plain: bits in bytes, the highest first. -/
namespace Go.Proofs.YtamcclcbmenjdaaGreatDoor.Pl

def byteOf (f : Nat → Bool) : Nat :=
  (f 0).toNat * 128 + (f 1).toNat * 64 + (f 2).toNat * 32 + (f 3).toNat * 16 + (f 4).toNat * 8 + (f 5).toNat * 4 + (f 6).toNat * 2 + (f 7).toNat
theorem byteOf_lt (f : Nat → Bool) : byteOf f < 256 := by
  unfold byteOf
  have h : ∀ b : Bool, b.toNat ≤ 1 := fun b => by cases b <;> decide
  have := h (f 0); have := h (f 1); have := h (f 2); have := h (f 3); have := h (f 4); have := h (f 5); have := h (f 6); have := h (f 7)
  omega
theorem byteOf_congr {f g : Nat → Bool} (h : ∀ i, i < 8 → f i = g i) : byteOf f = byteOf g := by
  unfold byteOf
  rw [h 0 (by omega), h 1 (by omega), h 2 (by omega), h 3 (by omega), h 4 (by omega), h 5 (by omega), h 6 (by omega), h 7 (by omega)]
theorem byteOf_set (g : Nat → Bool) (b : Bool) (m : Nat) (hm : m < 8) (hz : ∀ i, m ≤ i → g i = false) :
    byteOf g % 2 ^ (8 - m) = 0 ∧ byteOf (fun i => if i = m then b else g i) = byteOf g + b.toNat * 2 ^ (7 - m) := by
  have h0 := hz 0; have h1 := hz 1; have h2 := hz 2; have h3 := hz 3; have h4 := hz 4; have h5 := hz 5; have h6 := hz 6; have h7 := hz 7
  have e : m = 0 ∨ m = 1 ∨ m = 2 ∨ m = 3 ∨ m = 4 ∨ m = 5 ∨ m = 6 ∨ m = 7 := by omega
  rcases e with rfl | rfl | rfl | rfl | rfl | rfl | rfl | rfl <;> simp at h0 h1 h2 h3 h4 h5 h6 h7 <;> simp [byteOf, *] <;> omega
/-- the byte number j of a list of bits -/
def byteAt (l : List Bool) (j : Nat) : UInt8 := UInt8.ofNat (byteOf fun i => l.getD (8 * j + i) false)
def pack (l : List Bool) : List UInt8 := (List.range ((l.length + 7) / 8)).map (byteAt l)
theorem pack_length (l : List Bool) : (pack l).length = (l.length + 7) / 8 := by simp [pack]
theorem pack_nil : pack [] = [] := rfl
theorem byteAt_toNat (l : List Bool) (j : Nat) : (byteAt l j).toNat = byteOf fun i => l.getD (8 * j + i) false := by
  have := byteOf_lt fun i => l.getD (8 * j + i) false
  simp only [byteAt, UInt8.toNat_ofNat']
  exact Nat.mod_eq_of_lt this

/-- What is there ahead of a bit: a byte more, where the last is full. -/
def roomy (l : List Bool) : List UInt8 := if l.length % 8 = 0 then pack l ++ [0] else pack l
theorem roomy_length (l : List Bool) : (roomy l).length = l.length / 8 + 1 := by
  unfold roomy; split <;> simp [pack_length] <;> omega
theorem roomy_get (l : List Bool) (j : Nat) (h : j < l.length / 8 + 1) : (roomy l)[j]? = some (byteAt l j) := by
  unfold roomy
  split
  · by_cases hj : j < (l.length + 7) / 8
    · rw [List.getElem?_append_left (by rw [pack_length]; exact hj)]
      simp [pack, hj]
    · rw [List.getElem?_append_right (by rw [pack_length]; omega), pack_length, show j - (l.length + 7) / 8 = 0 by omega]
      have : byteAt l j = 0 := by
        apply UInt8.toNat_inj.1
        rw [byteAt_toNat]
        have hz : ∀ i, l.getD (8 * j + i) false = false := fun i => by
          rw [List.getD_eq_getElem?_getD, List.getElem?_eq_none (by omega)]; rfl
        rw [byteOf_congr (g := fun _ => false) fun i _ => hz i]; rfl
      simp [this]
  · have hj : j < (l.length + 7) / 8 := by omega
    simp [pack, hj]

theorem getD_snoc (l : List Bool) (b : Bool) (k : Nat) : (l ++ [b]).getD k false = if k = l.length then b else l.getD k false := by
  simp only [List.getD_eq_getElem?_getD]
  by_cases h : k < l.length
  · rw [List.getElem?_append_left h, if_neg (by omega)]
  · by_cases h2 : k = l.length
    · subst h2; simp
    · rw [if_neg h2, List.getElem?_eq_none (by simp; omega), List.getElem?_eq_none (by omega)]

/-- The byte that the next bit goes into: its lower bits are 0, and the bit is added. -/
theorem byteAt_snoc (l : List Bool) (b : Bool) :
    (byteAt l (l.length / 8)).toNat % 2 ^ (8 - l.length % 8) = 0 ∧ (byteAt (l ++ [b]) (l.length / 8)).toNat = (byteAt l (l.length / 8)).toNat + b.toNat * 2 ^ (7 - l.length % 8) := by
  rw [byteAt_toNat, byteAt_toNat]
  have hz : ∀ i, l.length % 8 ≤ i → l.getD (8 * (l.length / 8) + i) false = false := fun i hi => by
    rw [List.getD_eq_getElem?_getD, List.getElem?_eq_none (by omega)]; rfl
  have hs : ∀ i, (l ++ [b]).getD (8 * (l.length / 8) + i) false = if i = l.length % 8 then b else l.getD (8 * (l.length / 8) + i) false := fun i => by
    rw [getD_snoc]
    by_cases h : i = l.length % 8
    · rw [if_pos h, if_pos (by omega)]
    · rw [if_neg h, if_neg (by omega)]
  rw [byteOf_congr fun i _ => hs i]
  exact byteOf_set _ b _ (Nat.mod_lt _ (by decide)) hz

theorem pack_snoc (l : List Bool) (b : Bool) (x : UInt8) (hx : (roomy l)[l.length / 8]? = some x) :
    pack (l ++ [b]) = (roomy l).set (l.length / 8) (UInt8.ofNat (x.toNat + b.toNat * 2 ^ (7 - l.length % 8))) ∧ x.toNat % 2 ^ (8 - l.length % 8) = 0 ∧ x.toNat + b.toNat * 2 ^ (7 - l.length % 8) < 256 := by
  rw [roomy_get l _ (by omega)] at hx
  cases hx
  obtain ⟨h1, h2⟩ := byteAt_snoc l b
  have hlt := (byteAt (l ++ [b]) (l.length / 8)).toNat_lt
  rw [h2] at hlt
  refine ⟨?_, h1, by omega⟩
  apply List.ext_getElem?
  intro j
  rw [List.getElem?_set]
  by_cases hj : j < l.length / 8 + 1
  · have hp : j < ((l ++ [b]).length + 7) / 8 := by simp; omega
    have e1 : (pack (l ++ [b]))[j]? = some (byteAt (l ++ [b]) j) := by simp only [pack]; rw [List.getElem?_map, List.getElem?_range hp]; rfl
    rw [e1]
    by_cases he : l.length / 8 = j
    · subst he
      rw [if_pos rfl, if_pos (by rw [roomy_length]; omega)]
      congr 1
      apply UInt8.toNat_inj.1
      rw [h2, UInt8.toNat_ofNat']
      exact (Nat.mod_eq_of_lt hlt).symm
    · rw [if_neg he, roomy_get l j hj]
      congr 1
      apply UInt8.toNat_inj.1
      rw [byteAt_toNat, byteAt_toNat]
      exact byteOf_congr fun i hi => by rw [getD_snoc, if_neg (by omega)]
  · rw [List.getElem?_eq_none (by rw [pack_length]; simp; omega), if_neg (by omega), List.getElem?_eq_none (by rw [roomy_length]; omega)]

/-- The lowest bits of n, the highest first. -/
def bitsOf (n : Nat) : Nat → List Bool
  | 0 => []
  | k + 1 => (n / 2 ^ k % 2 == 1) :: bitsOf n k
theorem bitsOf_length (n k : Nat) : (bitsOf n k).length = k := by induction k <;> simp [bitsOf, *]
end Go.Proofs.YtamcclcbmenjdaaGreatDoor.Pl

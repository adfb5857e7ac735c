/- frame.appendVarint's contract. -/
import Derived.Test.YtcidgfdiacehmaaDoorProg
import Derived.Test.YtcidgfdiacehmaaDoorPlain
import Derived.Test.YtcidgfdiacehmaaDoorOwn
import Derived.WalkLawsBesides
namespace Go.Proofs.YtcidgfdiacehmaaDoor
open Go.RowKit

theorem Tryd.infoU8 : (Tryd.prog.info? 5).map (fun i => (i.zero, i.size, i.bytes)) = some (some (.int .u8 0), 1, 1) := by kernel_rfl

/-- What the call of a function that appends bytes to a slice of its caller's own leaves. -/
def Appended (base : Nat) (v : Value) (xs ys : List UInt8) (w : World) (v' : Value) (w' : World) : Prop :=
  w'.ownsRow base 5 1 v' (xs.length + ys.length) (Pl.Bs (xs ++ ys)) ∧ w.grownBy w' v.ownBlock ∧ Heir w v v'
def Bytes (base : Nat) (w : World) (v : Value) (xs : List UInt8) : Prop := w.ownsRow base 5 1 v xs.length (Pl.Bs xs)

theorem oneB (b : Int) : ∀ u ∈ [Value.int .u8 b], u.oneCell' = true := by intro u hu; simp at hu; subst hu; rfl

theorem varint_step {n f m : Nat} {ys : List UInt8} (h : Hid (m < 128 ^ (f + 1))) (hlt : 127 < m) (HV : Hid (Pl.varint n = ys ++ Pl.varintF f m)) :
    ∃ f', f = f' + 1 ∧ Hid (m / 128 < 128 ^ (f' + 1)) ∧ Hid (Pl.varint n = (ys ++ [UInt8.ofNat (m % 128 + 128)]) ++ Pl.varintF f' (m / 128)) := by
  cases f with
  | zero => have := h.out; omega
  | succ f => 
    refine ⟨f, rfl, ?_, ?_⟩
    · show m / 128 < 128 ^ (f + 1)
      have h' : m < 128 ^ (f + 1) * 128 := by rw [← Nat.pow_succ]; exact h.out
      omega
    · show Pl.varint n = _
      rw [HV.out, Pl.varintF_big f m (by omega)]; simp
/-- One byte more: what an append's law leaves, in the words of 'Bytes'. -/
theorem bytes_step {base : Nat} {w wr w1 : World} {v o v' : Value} {zs : List UInt8} {ob : Obj} {n' : Nat} (c : Int) (hg : w.grownBy wr v.ownBlock) (hh : Heir w v o)
    (hown' : w1.ownsRow base 5 1 v' n' (Pl.Bs zs ++ [.int .u8 c])) (hgrow : (wr.alloc ob).grownBy w1 o.ownBlock) (hheir : Heir (wr.alloc ob) o v') (b : UInt8) (hb : (b.toNat : Int) = c) :
    Bytes base w1 v' (zs ++ [b]) ∧ w.grownBy w1 v.ownBlock ∧ Heir w v v' := by
  refine ⟨?_, grownBy_trans hg (grownBy_alloc_then hgrow) hh, hh.trans hheir.of_alloc hg.size⟩
  unfold Bytes
  have hn : n' = (zs ++ [b]).length := by have := hown'.1; simp [Pl.Bs_length] at this; simp [this]
  rw [Pl.Bs_append, show Pl.Bs [b] = [.int .u8 c] by simp [Pl.Bs, Pl.B, hb], ← hn]
  exact hown'

set_option maxRecDepth 100000 in
set_option maxHeartbeats 400000 in
theorem appendVarint_any (base : Nat) (v : Value) (xs : List UInt8) (n : Nat) (w : World) (hown : Bytes base w v xs) (hn : n ≤ 9223372036854775807) (hx : xs.length ≤ 1099511627776) (hb : base ≤ w.heap.size) :
    Calls Tryd.prog 47 #[v, .int .i64 n] w fun e w' => ∃ v', e = .returned v' ∧ Bytes base w' v' (xs ++ Pl.varint n) ∧ w.grownBy w' v.ownBlock ∧ Heir w v v' := by
  obtain ⟨i0, hi, hz0, hz1, hz2⟩ := info_parts Tryd.infoU8
  go_enter Tryd.func47, Tryd.ntmps47
  go_wp2
  go_loopw [0, 1] (fun o q wr => ∃ (f m : Nat) (ys : List UInt8), m ≤ 9223372036854775807 ∧ Hid (m < 128 ^ (f + 1)) ∧ q = .int .i64 m ∧ Bytes base wr o (xs ++ ys) ∧ w.grownBy wr v.ownBlock ∧ Heir w v o ∧ ys.length + f ≤ 9 ∧ Hid (Pl.varint n = ys ++ Pl.varintF f m)) (fun _ q _ => (intOf q).toNat)
  case atStart => exact ⟨9, n, [], by omega, by show n < 128 ^ 10; omega, rfl, by simpa using hown, grownBy_refl _ _, Heir.refl _ _, by simp, rfl⟩
  case round =>
    obtain ⟨f, m, ys, hm, hmf, rfl, hbs, hg, hh, hl, HV⟩ := hrel
    have hand := Pl.and127_i64 m (by omega)
    have hor : bits .or .i64 ((m : Int) % 128) 128 = (m : Int) % 128 + 128 := by have := Pl.or128_i64 (m % 128) (by omega); simpa using this
    by_cases hlt : 127 < m
    · go_wp2_with (first | (at_builtin; refine wpList_append_heir _ rfl (.tmp 7) (.tmp 12) 63 rfl base 5 i0 (.int .u8 0) 1 1 Tryd.underlying63 hi hz0 hz1 hz2 rfl (by decide) _ _ _ rfl (hbs.alloc _) ⟨wr.heap.size, 0, none⟩ 1 1 [.int .u8 ((m : Int) % 128 + 128)] rfl rfl ?c1 ?c2 ?c3 ?c4 ?c5 ?_))
      case c1 => exact cell_one_new _ _ _
      case c2 => exact oneB _
      case c3 => simp; unfold maxLen; omega
      case c4 => simp; omega
      case c5 => have := hg.size; simp; omega
      intro v' w1 hown' hgrow hheir
      have hstep := varint_step hmf hlt HV
      have R := bytes_step ((m : Int) % 128 + 128) hg hh hown' hgrow hheir (UInt8.ofNat (m % 128 + 128)) (by rw [Pl.u8_ofNat _ (by omega)]; omega)
      clear hown' hgrow hheir hbs hg hh HV hmf
      obtain ⟨f', rfl, hmf', HV'⟩ := hstep
      go_wp2
      go_roundw
      case rel => exact ⟨f', m / 128, ys ++ [UInt8.ofNat (m % 128 + 128)], by omega, hmf', by go_num, by rw [← List.append_assoc]; exact R.1, R.2.1, R.2.2, by simp; omega, HV'⟩
      case measure => simp [intOf]; omega
    · go_wp2_with (first | (at_builtin; refine wpList_append_heir _ rfl (.tmp 16) (.tmp 19) 63 rfl base 5 i0 (.int .u8 0) 1 1 Tryd.underlying63 hi hz0 hz1 hz2 rfl (by decide) _ _ _ rfl (hbs.alloc _) ⟨wr.heap.size, 0, none⟩ 1 1 [.int .u8 (m : Int)] rfl rfl ?c1 ?c2 ?c3 ?c4 ?c5 ?_))
      case c1 => exact cell_one_new _ _ _
      case c2 => exact oneB _
      case c3 => simp; unfold maxLen; omega
      case c4 => simp; omega
      case c5 => have := hg.size; simp; omega
      intro v' w1 hown' hgrow hheir
      have R := bytes_step (m : Int) hg hh hown' hgrow hheir (UInt8.ofNat m) (by rw [Pl.u8_ofNat _ (by omega)])
      clear hown' hgrow hheir hbs hg hh
      go_wp2
      go_ret
      exact ⟨_, rfl, by rw [HV.out, Pl.varintF_small f m (by omega), ← List.append_assoc]; exact R.1, R.2.1, R.2.2⟩
end Go.Proofs.YtcidgfdiacehmaaDoor

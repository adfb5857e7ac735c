/- 'choirkeep.Lasts', for any two lists of steps (100 of each are done) and any numbers: what a replica had when it was synced or compacted it has behind any crash and restart, whatever came between; and a second restart changes nothing. The first form's statement and its card: no condition beside the row's own. -/
import Derived.Test.YtamcclcbmenjdaaGreatDoorLastsG41
import Derived.Test.YtamcclcbmenjdaaGreatDoorLastsG22
import Derived.Test.YtamcclcbmenjdaaGreatDoorLastsG39
/- choirkeep's act: every step. -/
namespace Go.Proofs.YtamcclcbmenjdaaGreatDoor
open Go.RowKit Go.Lib

theorem act_any (W : World) (cb M rl rc : Nat) (ra : Option Addr) (kd rr a c : Int) (S : CS) (raws : List (Int × Int × Nat)) (h : CluAt W cb S) (hk : CSOk M S) (hM : M ≤ 1000000000) (hT : Tabs W) (hcb : 2 < cb) (hr1 : Rng64 kd) (hr2 : Rng64 rr) (hr3 : Rng64 a) (hr4 : Rng64 c) (hR : RawsAt W W.heap.size (.slice ra rl rc) raws) (hrl : raws.length ≤ 100000000000000) :
    Calls Tryz.prog 18 #[.pointer (some ⟨cb, 0, none⟩), .agg #[.int .i64 kd, .int .i64 rr, .int .i64 a, .int .i64 c, .slice ra rl rc]] W fun e w' => ActEnd W w' cb S e := by
  have hlt : pk kd 12 < 12 := pk_lt _ _ (by omega)
  have e : pk kd 12 = 0 ∨ pk kd 12 = 1 ∨ pk kd 12 = 2 ∨ pk kd 12 = 3 ∨ pk kd 12 = 4 ∨ pk kd 12 = 5 ∨ pk kd 12 = 6 ∨ pk kd 12 = 7 ∨ pk kd 12 = 8 ∨ pk kd 12 = 9 ∨ pk kd 12 = 10 ∨ pk kd 12 = 11 := by omega
  rcases e with e | e | e | e | e | e | e | e | e | e | e | e
  · exact act0 W cb M rl rc ra kd rr a c S h hk hM hT hcb hr1 hr2 hr3 hr4 raws hR hrl e
  · exact act1 W cb M rl rc ra kd rr a c S h hk hM hT hcb hr1 hr2 hr3 hr4 raws hR hrl e
  · exact act2 W cb M rl rc ra kd rr a c S h hk hM hT hcb hr1 hr2 hr3 hr4 raws hR hrl e
  · exact act3 W cb M rl rc ra kd rr a c S h hk hM hT hcb hr1 hr2 hr3 hr4 e
  · exact act4 W cb M rl rc ra kd rr a c S h hk hM hT hcb hr1 hr2 hr3 hr4 e
  · exact act5 W cb M rl rc ra kd rr a c S h hk hM hT hcb hr1 hr2 hr3 hr4 e
  · exact act6 W cb M rl rc ra kd rr a c S h hk hM hT hcb hr1 hr2 hr3 hr4 e
  · exact act7 W cb M rl rc ra kd rr a c S h hk hM hT hcb hr1 hr2 hr3 hr4 e
  · exact act8 W cb M rl rc ra kd rr a c S h hk hM hT hcb hr1 hr2 hr3 hr4 e
  · exact act9 W cb M rl rc ra kd rr a c S h hk hM hT hcb hr1 hr2 hr3 hr4 e
  · exact act10 W cb M rl rc ra kd rr a c S h hk hM hT hcb hr1 hr2 hr3 hr4 e
  · exact act11 W cb M rl rc ra kd rr a c S h hk hM hT hcb hr1 hr2 hr3 hr4 e
end Go.Proofs.YtamcclcbmenjdaaGreatDoor

/- What a cluster is stays within bounds, step by step: pure. -/
namespace Go.Proofs.YtamcclcbmenjdaaGreatDoor
open Go.RowKit Go.Lib

theorem RepOk.mono {M M' : Nat} {r : RS} (h : RepOk M r) (hm : M ≤ M') : RepOk M' r := ⟨h.ok, h.lim, h.rng, Nat.le_trans h.len hm, h.la⟩
theorem CSOk.mono {M M' : Nat} {S : CS} (h : CSOk M S) (hm : M ≤ M') : CSOk M' S := ⟨fun k hk => (h.rep k hk).mono hm, h.msg⟩
theorem CSOk.put {M : Nat} {S : CS} {k : Nat} {r' : RS} (h : CSOk M S) (hr : RepOk M r') : CSOk M (S.put k r') := by
  refine ⟨fun j hj => ?_, h.msg⟩
  show RepOk M (if j = k then r' else S.r j)
  split
  · exact hr
  · exact h.rep j hj
theorem CSOk.way {M : Nat} {S : CS} {ms' : List Msg} (h : CSOk M S) (hm : ∀ m ∈ ms', m.fr < 3 ∧ m.to < 3 ∧ m.by_.size ≤ 60011) : CSOk M ⟨S.r, ms'⟩ := ⟨h.rep, hm⟩
theorem ok_nil : BatchOk [] ∧ LimitsOk [] ∧ InRange [] := ⟨⟨fun i x h _ => absurd h (Nat.not_lt_zero _), fun i x y h => absurd h (Nat.not_lt_zero _)⟩, ⟨fun i x h _ => absurd h (Nat.not_lt_zero _), Nat.zero_le _⟩, fun s hs => by cases hs⟩
theorem write_ok {M : Nat} {r r' : RS} {b : List Ser} {n : Nat} (h : RepOk M r) (hw : WriteOf r b n r') (hr : InRange b) : RepOk (M + 60011) r' := by
  rcases hw with ⟨_, _, rfl⟩ | ⟨hb, j, hj, hc, ⟨_, rfl⟩ | ⟨_, _, rfl⟩ | ⟨rfl, _, rfl⟩⟩
  · exact h.mono (by omega)
  · exact h.mono (by omega)
  · exact h.mono (by omega)
  · obtain ⟨h1, h2⟩ := code0 hc
    obtain ⟨g1, g2⟩ := code0 hb
    have hz := frB_size (fits_of g1 g2)
    have hrj : InRange j := ranged_join (fun bs hbs => by
      rcases List.mem_cons.1 hbs with rfl | hbs
      · exact h.rng
      · rw [List.mem_singleton.1 hbs]; exact hr) hj
    refine ⟨h1, h2, hrj, ?_, ?_⟩
    · show logSize (frB b :: r.log) ≤ _
      rw [logSize_cons]; have := h.len; omega
    · show r.la ≤ logSize (frB b :: r.log)
      rw [logSize_cons]; have := h.la; omega
theorem recv_ok {M : Nat} {r r' : RS} {s : ByteArray} (h : RepOk M r) (hw : RecvOf r s r') : RepOk (M + 60011) r' := by
  rcases hw with ⟨_, rfl⟩ | ⟨_, _, n, hw⟩
  · exact h.mono (by omega)
  · exact write_ok h hw (got_range _)
theorem sync_ok {M : Nat} {r : RS} (h : RepOk M r) : RepOk M { r with la := logSize r.log } := ⟨h.ok, h.lim, h.rng, h.len, Nat.le_refl _⟩
theorem crash_ok {M : Nat} {r : RS} (h : RepOk M r) (keep : Int) : RepOk M (crashOf r keep) := by
  have hs := crash_size h.la keep
  have hl : logSize [BA ((logB r.log).take (keptN r keep))] = keptN r keep := by rw [logSize_cons, hs]; simp [logSize]
  have hk := keptN_le h.la keep
  refine ⟨ok_nil.1, ok_nil.2.1, ok_nil.2.2, ?_, ?_⟩
  · show logSize [BA ((logB r.log).take (keptN r keep))] ≤ M
    rw [hl]; have := h.len; omega
  · show keptN r keep ≤ logSize [BA ((logB r.log).take (keptN r keep))]
    rw [hl]; exact Nat.le_refl _
theorem row_le {s : List UInt8} {bss : List (List Ser)} {n : Nat} (h : RowOf s bss n) : n ≤ s.length := by
  induction h using RowOf.ind with
  | stop => exact Nat.zero_le _
  | next s bss n hf _ ih =>
    rw [List.length_drop] at ih
    have := ff_len s
    omega
theorem restart_ok {M n : Nat} {r r' : RS} (h : RepOk M r) (hr : RestartOf r n r') : RepOk M r' := by
  rcases hr with ⟨_, _, rfl⟩ | ⟨_, _, bss, z, j, m, hrow, hj, hc, rfl⟩
  · exact h
  · have hz := row_le hrow
    rw [logB_length] at hz
    have hl : logSize [BA ((logB r.log).take z)] = z := by
      rw [logSize_cons, BA_size, List.length_take, logB_length, show logSize [] = 0 from rfl]
      omega
    have hok := row_ok hrow
    have hb : BatchOk (if m = 0 then j else []) ∧ LimitsOk (if m = 0 then j else []) ∧ InRange (if m = 0 then j else []) := by
      by_cases e : m = 0
      · subst e
        rw [if_pos rfl]
        exact ⟨(code0 hc).1, (code0 hc).2, ranged_join (fun b hb => (hok b hb).2.2) hj⟩
      · rw [if_neg e]; exact ok_nil
    refine ⟨hb.1, hb.2.1, hb.2.2, ?_, ?_⟩
    · show logSize [BA ((logB r.log).take z)] ≤ M
      rw [hl]; have := h.len; omega
    · show z ≤ logSize [BA ((logB r.log).take z)]
      rw [hl]; exact Nat.le_refl _
theorem pushed_ok {ms : List Msg} {m : Msg} {p : Msg → Prop} (h : ∀ x ∈ ms, p x) (hm : p m) : ∀ x ∈ pushed ms m, p x := by
  intro x hx
  unfold pushed at hx
  split at hx
  · rcases List.mem_append.1 hx with hx | hx
    · exact h x hx
    · rw [List.mem_singleton.1 hx]; exact hm
  · exact h x hx
theorem step_ok {M : Nat} {S S' : CS} {b : List Ser} (h : CSOk M S) (hs : StepOf S S' b) : CSOk (M + 60011) S' := by
  have h' : CSOk (M + 60011) S := h.mono (by omega)
  cases hs using StepOf.elim with
  | stay => exact h'
  | sync k hk =>
    refine h'.put ?_
    split
    · exact sync_ok (h'.rep k hk)
    · exact h'.rep k hk
  | push k t hk ht hne =>
    refine h'.way ?_
    split
    · exact pushed_ok h.msg ⟨hk, ht, frB_size (fits_of (h.rep k hk).ok (h.rep k hk).lim)⟩
    · exact h.msg
  | deliver i n S' hd =>
    rcases hd with ⟨_, rfl, _⟩ | ⟨_, k, m, r', _, hm, hr, rfl⟩
    · exact h'
    · have hto := (h.msg m (List.mem_of_getElem? hm)).2.1
      exact (h'.way fun x hx => h.msg x (List.mem_of_mem_eraseIdx hx)).put (recv_ok (h.rep m.to hto) hr)
  | drop k => exact h'.way fun x hx => h.msg x (List.mem_of_mem_eraseIdx hx)
  | twice k m hm => exact h'.way (pushed_ok h.msg (h.msg m (List.mem_of_getElem? hm)))
  | spoil ms' hsp =>
    refine h'.way ?_
    rcases hsp with rfl | ⟨k, m, a, q, hm, _, rfl⟩
    · exact h.msg
    · intro x hx
      rcases List.mem_or_eq_of_mem_set hx with hx | rfl
      · exact h.msg x hx
      · have h1 := h.msg m (List.mem_of_getElem? hm)
        refine ⟨h1.1, h1.2.1, ?_⟩
        show (BA (turnTo m.by_.data.toList a (mbit q) 32)).size ≤ 60011
        rw [BA_size, turnTo_length]
        simpa using h1.2.2
  | crash k keep hk =>
    refine h'.put ?_
    split
    · exact crash_ok (h'.rep k hk) keep
    · exact h'.rep k hk
  | restart k n r' hk hr => exact h'.put (restart_ok (h'.rep k hk) hr)
  | write k n b r' hk hu hw h1 h2 h3 h4 => exact h'.put (write_ok (h.rep k hk) hw h3)
end Go.Proofs.YtamcclcbmenjdaaGreatDoor

/- What is there was written: pure. -/
namespace Go.Proofs.YtamcclcbmenjdaaGreatDoor
open Go.RowKit Go.Lib

/-- All of bs is in A, just so. -/
def Made (A bs : List Ser) : Prop := ∀ l t v, Holds bs l t v → Holds A l t v
theorem Made.nil (A : List Ser) : Made A [] := fun _ _ _ ⟨_, hs, _⟩ => by cases hs
theorem Made.more {A bs : List Ser} (h : Made A bs) (B : List Ser) : Made (A ++ B) bs := fun l t v hh => by
  obtain ⟨s, hs, h1⟩ := h l t v hh
  exact ⟨s, List.mem_append_left _ hs, h1⟩
theorem Made.self (A B : List Ser) : Made (A ++ B) B := fun _ _ _ ⟨s, hs, h1⟩ => ⟨s, List.mem_append_right _ hs, h1⟩
theorem Made.join {A j : List Ser} {bss : List (List Ser)} (h : ∀ bs ∈ bss, Made A bs) (hj : IsJoin bss j) : Made A j := fun l t v hh => by
  obtain ⟨⟨bs, hb, h1⟩, _⟩ := (hj.holds l t v).1 hh
  exact h bs hb l t v h1
theorem made_write {A b : List Ser} {r r' : RS} {n : Nat} (hr : Made A r.bs) (hb : Made A b) (hw : WriteOf r b n r') : Made A r'.bs := by
  rcases hw with ⟨_, _, rfl⟩ | ⟨_, j, hj, hc, ⟨_, rfl⟩ | ⟨_, _, rfl⟩ | ⟨rfl, _, rfl⟩⟩
  · exact hr
  · exact hr
  · exact hr
  · exact Made.join (fun bs hbs => by
      rcases List.mem_cons.1 hbs with rfl | hbs
      · exact hr
      · rw [List.mem_singleton.1 hbs]; exact hb) hj
/-- A message bears a batch that was written, or is such a one that was spoilt once. -/
def MsgOk (A : List Ser) (m : Msg) : Prop := ∃ bs, BatchOk bs ∧ LimitsOk bs ∧ InRange bs ∧ Made A bs ∧ (m.by_ = frB bs ∨ (m.sp = 1 ∧ ∃ a q : Nat, m.by_ = BA (turnTo (frameOf (payload bs)) a (mbit q) 32)))
theorem msg_got {A : List Ser} {m : Msg} (h : MsgOk A m) (hf : IsFrame m.by_.data.toList) : Made A (got m.by_.data.toList) := by
  obtain ⟨bs, h1, h2, h3, h4, h5⟩ := h
  have hfr := frame_is bs h1 h2 h3
  rcases h5 with e | ⟨_, a, q, e⟩
  · rw [e]
    unfold frB
    rw [BA_list, hfr.2]
    exact h4
  · rw [e, BA_list] at hf
    have ht := burst_tells _ a (mbit q) hfr.1.opens hf.opens
    rw [e, BA_list, ht, hfr.2]
    exact h4
theorem msg_spoil {A : List Ser} {m : Msg} (h : MsgOk A m) (hs : m.sp ≠ 1) (a q : Nat) : MsgOk A (m.spoil a q) := by
  obtain ⟨bs, h1, h2, h3, h4, h5⟩ := h
  rcases h5 with e | ⟨e, _⟩
  · refine ⟨bs, h1, h2, h3, h4, .inr ⟨rfl, a, q, ?_⟩⟩
    show BA (turnTo m.by_.data.toList a (mbit q) 32) = _
    rw [e]
    unfold frB
    rw [BA_list]
  · exact absurd e hs
end Go.Proofs.YtamcclcbmenjdaaGreatDoor

/- A log of frames, cut anywhere: what UnpackRow makes of it: pure. -/
namespace Go.Proofs.YtamcclcbmenjdaaGreatDoor
open Go.RowKit Go.Lib

theorem psz_same (l m : List UInt8) (h : ∀ i, 3 ≤ i → i < 7 → l.getD i 0 = m.getD i 0) : pszTo l 4 = pszTo m 4 := by
  simp only [pszTo, h 3 (by omega) (by omega), h (3 + 1) (by omega) (by omega), h (3 + 2) (by omega) (by omega), h (3 + 3) (by omega) (by omega)]
theorem getD_prefix {l m : List UInt8} (h : l <+: m) {i : Nat} (hi : i < l.length) : l.getD i 0 = m.getD i 0 := by
  obtain ⟨r, rfl⟩ := h
  rw [List.getD_eq_getElem?_getD, List.getD_eq_getElem?_getD, List.getElem?_append_left hi]
/-- The first frame of a row of frames. -/
theorem ff_frame {f rest : List UInt8} (h : Opens f) : ff (f ++ rest) = f := by
  have hl := h.long
  have e : pszTo (f ++ rest) 4 = f.length - 11 := by
    rw [← h.size]
    exact (psz_same _ _ fun i _ h2 => getD_prefix (List.prefix_append f rest) (by omega)).symm
  unfold ff
  rw [e, if_neg (by rw [List.length_append]; omega), show 11 + (f.length - 11) = f.length by omega]
  exact List.take_left
/-- A frame that is cut has no first frame. -/
theorem ff_cut {f s : List UInt8} (h : Opens f) (hp : s <+: f) (hlt : s.length < f.length) : ff s = [] := by
  have hl := h.long
  unfold ff
  rw [if_pos]
  by_cases h7 : s.length < 7
  · exact .inl h7
  · right
    have e : pszTo s 4 = f.length - 11 := by
      rw [← h.size]
      exact psz_same _ _ fun i _ h2 => getD_prefix hp (by omega)
    rw [e]; omega
/-- The frames of batches, one behind the other. -/
def rowB (bss : List (List Ser)) : List UInt8 := (bss.map fun b => frameOf (payload b)).flatten
theorem not_frame_nil : ¬ IsFrame [] := fun h => by have := h.opens.long; simp at this
/-- UnpackRow of a row of frames that is cut somewhere: the whole frames ahead of the cut. -/
theorem row_of : ∀ (bss : List (List Ser)), (∀ b ∈ bss, BatchOk b ∧ LimitsOk b ∧ InRange b) → ∀ (s : List UInt8), s <+: rowB bss → ∀ {css : List (List Ser)} {n : Nat}, RowOf s css n → css <+: bss ∧ rowB css = s.take n
  | [], _, s, hp, css, n, hr => by
    have hs : s = [] := by simpa [rowB] using hp
    subst hs
    cases hr using RowOf.two with
    | stop h => exact ⟨List.prefix_refl _, rfl⟩
    | next _ _ h _ => exact absurd h (by simpa [ff] using not_frame_nil)
  | b :: r, hok, s, hp, css, n, hr => by
    obtain ⟨h1, h2, h3⟩ := hok b (by simp)
    have hf := frame_is b h1 h2 h3
    have hrb : rowB (b :: r) = frameOf (payload b) ++ rowB r := by simp [rowB]
    rw [hrb] at hp
    by_cases hlt : s.length < (frameOf (payload b)).length
    · have hc := ff_cut hf.1.opens (List.prefix_of_prefix_length_le hp (List.prefix_append _ _) (by omega)) hlt
      cases hr using RowOf.two with
      | stop h => exact ⟨List.nil_prefix, by simp [rowB]⟩
      | next _ _ h _ => rw [hc] at h; exact absurd h not_frame_nil
    · obtain ⟨s', rfl⟩ : frameOf (payload b) <+: s := List.prefix_of_prefix_length_le (List.prefix_append _ _) hp (by omega)
      have hff := ff_frame (rest := s') hf.1.opens
      have hp' : s' <+: rowB r := (List.prefix_append_right_inj _).1 hp
      cases hr using RowOf.two with
      | stop h => rw [hff] at h; exact absurd hf.1 h
      | next cs m h hr' =>
        rw [hff, List.drop_left] at hr'
        obtain ⟨i1, i2⟩ := row_of r (fun x hx => hok x (by simp [hx])) s' hp' hr'
        rw [hff, hf.2]
        refine ⟨?_, ?_⟩
        · obtain ⟨t, ht⟩ := i1
          exact ⟨t, by rw [← ht]; rfl⟩
        · have e : rowB (b :: cs) = frameOf (payload b) ++ rowB cs := by simp [rowB]
          have h4 : (frameOf (payload b)).take ((frameOf (payload b)).length + m) = frameOf (payload b) := List.take_of_length_le (by omega)
          rw [e, i2, List.take_append, h4, Nat.add_sub_cancel_left]
end Go.Proofs.YtamcclcbmenjdaaGreatDoor

/- Sound's invariant, step by step: pure. -/
namespace Go.Proofs.YtamcclcbmenjdaaGreatDoor
open Go.RowKit Go.Lib

theorem logB_cons (x : ByteArray) (l : List ByteArray) : logB (x :: l) = logB l ++ x.data.toList := by simp [logB]
/-- A replica has what was written; its log is a row of frames of what was written, cut somewhere; the whole of it while it is up. -/
structure RepSnd (A : List Ser) (r : RS) : Prop where
  made : Made A r.bs
  log : ∃ bss, (∀ b ∈ bss, (BatchOk b ∧ LimitsOk b ∧ InRange b) ∧ Made A b) ∧ logB r.log <+: rowB bss ∧ (r.up = true → logB r.log = rowB bss)
theorem rowB_snoc (bss : List (List Ser)) (b : List Ser) : rowB (bss ++ [b]) = rowB bss ++ frameOf (payload b) := by simp [rowB]
theorem snd_write {A b : List Ser} {r r' : RS} {n : Nat} (h : RepSnd A r) (hu : r.up = true) (hb : Made A b) (hr : InRange b) (hw : WriteOf r b n r') : RepSnd A r' := by
  have hm := made_write h.made hb hw
  rcases hw with ⟨_, _, rfl⟩ | ⟨hc0, j, hj, hc, ⟨_, rfl⟩ | ⟨_, _, rfl⟩ | ⟨rfl, _, rfl⟩⟩
  · exact h
  · exact h
  · exact h
  · obtain ⟨bss, h1, h2, h3⟩ := h.log
    obtain ⟨g1, g2⟩ := code0 hc0
    have e : logB (frB b :: r.log) = rowB (bss ++ [b]) := by
      rw [logB_cons, h3 hu, rowB_snoc]
      unfold frB
      rw [BA_list]
    refine ⟨hm, bss ++ [b], fun x hx => ?_, ?_, fun _ => e⟩
    · rcases List.mem_append.1 hx with hx | hx
      · exact h1 x hx
      · rw [List.mem_singleton.1 hx]; exact ⟨⟨g1, g2, hr⟩, hb⟩
    · show logB (frB b :: r.log) <+: _
      rw [e]; exact List.prefix_refl _
theorem logB_one (l : List UInt8) : logB [BA l] = l := by rw [logB_cons, BA_list]; rfl
theorem snd_crash {A : List Ser} {r : RS} (h : RepSnd A r) (keep : Int) : RepSnd A (crashOf r keep) := by
  obtain ⟨bss, h1, h2, _⟩ := h.log
  refine ⟨Made.nil A, bss, h1, ?_, fun e => by cases e⟩
  show logB [BA _] <+: _
  rw [logB_one]
  exact (List.take_prefix _ _).trans h2
theorem snd_restart {A : List Ser} {r r' : RS} {n : Nat} (h : RepSnd A r) (hr : RestartOf r n r') : RepSnd A r' := by
  rcases hr with ⟨_, _, rfl⟩ | ⟨_, _, bss, z, j, m, hrow, hj, hc, rfl⟩
  · exact h
  · obtain ⟨bs, h1, h2, _⟩ := h.log
    obtain ⟨i1, i2⟩ := row_of bs (fun b hb => (h1 b hb).1) _ h2 hrow
    have hsub : ∀ b ∈ bss, b ∈ bs := fun b hb => i1.subset hb
    have e : logB [BA ((logB r.log).take z)] = rowB bss := by rw [logB_one, i2]
    refine ⟨?_, bss, fun b hb => h1 b (hsub b hb), ?_, fun _ => e⟩
    · show Made A (if m = 0 then j else [])
      split
      · exact Made.join (fun b hb => (h1 b (hsub b hb)).2) hj
      · exact Made.nil A
    · show logB [BA _] <+: _
      rw [e]; exact List.prefix_refl _
structure CSnd (A : List Ser) (S : CS) : Prop where
  rep : ∀ k, k < 3 → RepSnd A (S.r k)
  msg : ∀ m ∈ S.ms, MsgOk A m
theorem RepSnd.more {A : List Ser} {r : RS} (h : RepSnd A r) (B : List Ser) : RepSnd (A ++ B) r := by
  obtain ⟨bss, h1, h2, h3⟩ := h.log
  exact ⟨h.made.more B, bss, fun b hb => ⟨(h1 b hb).1, (h1 b hb).2.more B⟩, h2, h3⟩
theorem MsgOk.more {A : List Ser} {m : Msg} (h : MsgOk A m) (B : List Ser) : MsgOk (A ++ B) m := by
  obtain ⟨bs, h1, h2, h3, h4, h5⟩ := h
  exact ⟨bs, h1, h2, h3, h4.more B, h5⟩
theorem CSnd.more {A : List Ser} {S : CS} (h : CSnd A S) (B : List Ser) : CSnd (A ++ B) S := ⟨fun k hk => (h.rep k hk).more B, fun m hm => (h.msg m hm).more B⟩
theorem CSnd.put {A : List Ser} {S : CS} {k : Nat} {r' : RS} (h : CSnd A S) (hr : RepSnd A r') : CSnd A (S.put k r') := by
  refine ⟨fun j hj => ?_, h.msg⟩
  show RepSnd A (if j = k then r' else S.r j)
  split
  · exact hr
  · exact h.rep j hj
theorem snd_step {M : Nat} {A b : List Ser} {S S' : CS} (hk : CSOk M S) (h : CSnd A S) (hs : StepOf S S' b) : CSnd (A ++ b) S' := by
  cases hs using StepOf.elim with
  | stay => rw [List.append_nil]; exact h
  | sync k hk3 =>
    rw [List.append_nil]
    refine h.put ?_
    have h1 := h.rep k hk3
    split
    · exact ⟨h1.made, h1.log⟩
    · exact h1
  | push k t hk3 ht hne =>
    rw [List.append_nil]
    refine ⟨h.rep, ?_⟩
    show ∀ m ∈ (if (S.r k).up = true then _ else _), _
    split
    · exact pushed_ok h.msg ⟨(S.r k).bs, (hk.rep k hk3).ok, (hk.rep k hk3).lim, (hk.rep k hk3).rng, (h.rep k hk3).made, .inl rfl⟩
    · exact h.msg
  | deliver i n S' hd =>
    rw [List.append_nil]
    rcases hd with ⟨_, rfl, _⟩ | ⟨_, k, m, r', _, hm, hr, rfl⟩
    · exact h
    · have hmem := List.mem_of_getElem? hm
      have hto := (hk.msg m hmem).2.1
      have hway : CSnd A ⟨S.r, S.ms.eraseIdx k⟩ := ⟨h.rep, fun x hx => h.msg x (List.mem_of_mem_eraseIdx hx)⟩
      refine hway.put ?_
      rcases hr with ⟨_, rfl⟩ | ⟨hu, hf, n, hw⟩
      · exact h.rep m.to hto
      · exact snd_write (h.rep m.to hto) hu (msg_got (h.msg m hmem) hf) (got_range _) hw
  | drop k => rw [List.append_nil]; exact ⟨h.rep, fun x hx => h.msg x (List.mem_of_mem_eraseIdx hx)⟩
  | twice k m hm => rw [List.append_nil]; exact ⟨h.rep, pushed_ok h.msg (h.msg m (List.mem_of_getElem? hm))⟩
  | spoil ms' hsp =>
    rw [List.append_nil]
    refine ⟨h.rep, ?_⟩
    rcases hsp with rfl | ⟨k, m, a, q, hm, hs1, rfl⟩
    · exact h.msg
    · intro x hx
      rcases List.mem_or_eq_of_mem_set hx with hx | rfl
      · exact h.msg x hx
      · exact msg_spoil (h.msg m (List.mem_of_getElem? hm)) hs1 a q
  | crash k keep hk3 =>
    rw [List.append_nil]
    refine h.put ?_
    split
    · exact snd_crash (h.rep k hk3) keep
    · exact h.rep k hk3
  | restart k n r' hk3 hr => rw [List.append_nil]; exact h.put (snd_restart (h.rep k hk3) hr)
  | write k n b r' hk3 hu hw h1 h2 h3 h4 =>
    by_cases hn : n = 0
    · rw [if_pos hn]
      exact (h.more b).put (snd_write ((h.rep k hk3).more b) hu (Made.self A b) h3 hw)
    · rw [if_neg hn, List.append_nil]
      refine h.put ?_
      have e : r' = S.r k := by
        rcases hw with ⟨_, _, e⟩ | ⟨_, j, _, _, ⟨_, e⟩ | ⟨e0, _, _⟩ | ⟨e0, _, _⟩⟩
        · exact e
        · exact e
        · exact absurd e0 hn
        · exact absurd e0 hn
      rw [e]; exact h.rep k hk3
end Go.Proofs.YtamcclcbmenjdaaGreatDoor

/- While a replica is up what it has only grows: pure. -/
namespace Go.Proofs.YtamcclcbmenjdaaGreatDoor
open Go.RowKit Go.Lib

def Grows (a b : List Ser) : Prop := ∀ l t v, Holds a l t v → ∃ u, v ≤ u ∧ Holds b l t u
theorem Grows.refl (a : List Ser) : Grows a a := fun _ _ v h => ⟨v, Nat.le_refl _, h⟩
theorem grow_write {M : Nat} {r r' : RS} {b : List Ser} {n : Nat} (h : RepOk M r) (hw : WriteOf r b n r') : Grows r.bs r'.bs := by
  rcases hw with ⟨_, _, rfl⟩ | ⟨hc0, j, hj, hc, ⟨_, rfl⟩ | ⟨_, _, rfl⟩ | ⟨rfl, _, rfl⟩⟩
  · exact Grows.refl _
  · exact Grows.refl _
  · exact Grows.refl _
  · intro l t v hh
    have hm : r.bs ∈ [r.bs, b] := by simp
    obtain ⟨u, hu⟩ := holds_max (bss := [r.bs, b]) (fun bs hbs => by
      rcases List.mem_cons.1 hbs with rfl | hbs
      · exact h.ok
      · rw [List.mem_singleton.1 hbs]; exact (code0 hc0).1) l t ⟨r.bs, hm, v, hh⟩
    exact ⟨u, hu.2 r.bs hm v hh, (hj.holds l t u).2 hu⟩
theorem grow_put {S : CS} {j k : Nat} {r' : RS} (hg : (S.r j).up = true → r'.up = true → Grows (S.r j).bs r'.bs) (h1 : (S.r k).up = true) (h2 : ((S.put j r').r k).up = true) : Grows (S.r k).bs ((S.put j r').r k).bs := by
  by_cases e : k = j
  · subst e
    have e2 : (S.put k r').r k = r' := by simp [CS.put]
    rw [e2] at h2 ⊢
    exact hg h1 h2
  · have e2 : (S.put j r').r k = S.r k := by simp [CS.put, e]
    rw [e2]; exact Grows.refl _
theorem step_grow {M : Nat} {S S' : CS} {b : List Ser} (hk : CSOk M S) (hs : StepOf S S' b) {k : Nat} (h1 : (S.r k).up = true) (h2 : (S'.r k).up = true) : Grows (S.r k).bs (S'.r k).bs := by
  cases hs using StepOf.elim with
  | stay => exact Grows.refl _
  | sync j hj => exact grow_put (fun _ _ => by split <;> exact Grows.refl _) h1 h2
  | push => exact Grows.refl _
  | deliver i n S' hd =>
    rcases hd with ⟨_, rfl, _⟩ | ⟨_, q, m, r', _, hm, hr, rfl⟩
    · exact Grows.refl _
    · refine grow_put (S := ⟨S.r, S.ms.eraseIdx q⟩) (fun _ _ => ?_) h1 h2
      rcases hr with ⟨_, rfl⟩ | ⟨_, _, n, hw⟩
      · exact Grows.refl _
      · exact grow_write (hk.rep m.to (hk.msg m (List.mem_of_getElem? hm)).2.1) hw
  | drop => exact Grows.refl _
  | twice => exact Grows.refl _
  | spoil => exact Grows.refl _
  | crash j keep hj => exact grow_put (fun e1 e2 => by rw [if_pos e1] at e2; cases e2) h1 h2
  | restart j n r' hj hr => exact grow_put (fun e1 _ => by
      rcases hr with ⟨_, _, rfl⟩ | ⟨e, _⟩
      · exact Grows.refl _
      · rw [e1] at e; cases e) h1 h2
  | write j n b r' hj hu hw => exact grow_put (fun _ _ => grow_write (hk.rep j hj) hw) h1 h2
end Go.Proofs.YtamcclcbmenjdaaGreatDoor

/- The states that choirkeep's begun goes through: pure. -/
namespace Go.Proofs.YtamcclcbmenjdaaGreatDoor
open Go.RowKit Go.Lib

theorem Code.uni {bs : List Ser} {n m : Nat} (h : Code bs n) (g : Code bs m) : n = m := by
  rcases h with ⟨rfl, h⟩ | ⟨rfl, h, h'⟩ | ⟨rfl, h, h'⟩ <;> rcases g with ⟨rfl, g⟩ | ⟨rfl, g, g'⟩ | ⟨rfl, g, g'⟩ <;> first | rfl | exact absurd g h | exact absurd h g | exact absurd g' h' | exact absurd h' g'
def b0 : List Ser := [([], [(1, 2)])]
theorem b0_ok : BatchOk b0 := (batchOk_iff _).2 ⟨fun s hs => by
  rw [List.mem_singleton.1 hs]
  exact ⟨⟨fun i x h _ => absurd h (Nat.not_lt_zero _), fun i x y h => absurd h (Nat.not_lt_zero _)⟩, (samplesOk_iff _).2 ⟨by simp, List.pairwise_singleton _ _⟩⟩, List.pairwise_singleton _ _⟩
theorem b0_lim : LimitsOk b0 := ⟨fun i x hi hx => by
  match i, hx with
  | 0, hx => have : x = ([], [(1, 2)]) := by simpa [b0] using hx.symm
             subst this; simp
  | i + 1, hx => simp [b0] at hx, by simp [b0]⟩
theorem b0_rng : InRange b0 := fun s hs x hx => by
  rw [List.mem_singleton.1 hs] at hx
  rw [List.mem_singleton.1 hx]
  simp
theorem b0_kb : KB b0 10 := fun s hs => by
  rw [List.mem_singleton.1 hs]
  exact ⟨⟨0, by omega, rfl⟩, by simp⟩
theorem b0_code : Code b0 0 := .inr (.inr ⟨rfl, b0_ok, b0_lim⟩)
theorem b0_join {j : List Ser} (h : IsJoin [[], b0] j) : j = b0 := by
  refine h.unique (IsJoin.mk b0_ok fun l t v => ?_)
  constructor
  · intro hh
    refine ⟨⟨b0, by simp, hh⟩, fun bs hbs u hu => ?_⟩
    rcases List.mem_cons.1 hbs with rfl | hbs
    · obtain ⟨s, hs, _⟩ := hu; cases hs
    · rw [List.mem_singleton.1 hbs] at hu
      exact Nat.le_of_eq (Holds.unique b0_ok hu hh)
  · rintro ⟨⟨bs, hbs, hh⟩, _⟩
    rcases List.mem_cons.1 hbs with rfl | hbs
    · obtain ⟨s, hs, _⟩ := hh; cases hs
    · rw [List.mem_singleton.1 hbs] at hh; exact hh
def r1 : RS := ⟨true, b0, [frB b0], 0⟩
theorem beg_write {n : Nat} {r' : RS} (h : WriteOf r0 b0 n r') : n = 0 ∧ r' = r1 := by
  rcases h with ⟨hc, hn, _⟩ | ⟨_, j, hj, hc, h2⟩
  · exact absurd (hc.uni b0_code) hn
  · obtain rfl := b0_join hj
    obtain rfl := hc.uni b0_code
    rcases h2 with ⟨h, _⟩ | ⟨_, h, _⟩ | ⟨_, _, h⟩
    · exact absurd rfl h
    · exact absurd h (by simp [b0, r0])
    · exact ⟨rfl, h⟩
def Sb1 : CS := S0.put 0 r1
def Sb2 : CS := ⟨Sb1.r, [⟨0, 1, frB b0, 0⟩]⟩
def Sb3 : CS := (CS.mk Sb1.r []).put 1 r1
theorem write_r1 : WriteOf r0 b0 0 r1 := .inr ⟨b0_code, b0, IsJoin.mk b0_ok (fun l t v => by
  constructor
  · intro hh
    refine ⟨⟨b0, by simp, hh⟩, fun bs hbs u hu => ?_⟩
    rcases List.mem_cons.1 hbs with rfl | hbs
    · obtain ⟨s, hs, _⟩ := hu; cases hs
    · rw [List.mem_singleton.1 hbs] at hu
      exact Nat.le_of_eq (Holds.unique b0_ok hu hh)
  · rintro ⟨⟨bs, hbs, hh⟩, _⟩
    rcases List.mem_cons.1 hbs with rfl | hbs
    · obtain ⟨s, hs, _⟩ := hh; cases hs
    · rw [List.mem_singleton.1 hbs] at hh; exact hh), b0_code, .inr (.inr ⟨rfl, by simp [b0, r0], rfl⟩)⟩
theorem begS1 : StepOf S0 Sb1 b0 := StepOf.write (S := S0) 0 0 b0 r1 (by omega) rfl write_r1 b0_ok b0_lim b0_rng b0_kb
theorem begS2 : StepOf Sb1 Sb2 [] := StepOf.push (S := Sb1) 0 1 (by omega) (by omega) (by omega)
theorem beg_deliver {n : Nat} {S' : CS} (h : DelivOf Sb2 0 n S') : n = 0 ∧ S' = Sb3 := by
  rcases h with ⟨_, _, h⟩ | ⟨hn, k, m, r', hk, hm, hr, hS⟩
  · exact absurd ⟨Int.le_refl _, by decide⟩ h
  · obtain rfl : k = 0 := by omega
    have em : m = ⟨0, 1, frB b0, 0⟩ := by simpa [Sb2] using hm.symm
    subst em
    have hfr := frame_is b0 b0_ok b0_lim b0_rng
    have e : (frB b0).data.toList = frameOf (payload b0) := BA_list _
    rcases hr with ⟨h | h, _⟩ | ⟨_, _, m, hw⟩
    · cases h
    · exact absurd (by show IsFrame (frB b0).data.toList; rw [e]; exact hfr.1) h
    · have hw2 : WriteOf r0 (got (frB b0).data.toList) m r' := hw
      rw [e, hfr.2] at hw2
      obtain ⟨rfl, rfl⟩ := beg_write hw2
      exact ⟨hn, hS⟩
theorem deliver_b : DelivOf Sb2 0 0 Sb3 := by
  have hfr := frame_is b0 b0_ok b0_lim b0_rng
  have e : (frB b0).data.toList = frameOf (payload b0) := BA_list _
  refine .inr ⟨rfl, 0, ⟨0, 1, frB b0, 0⟩, r1, rfl, rfl, .inr ⟨rfl, ?_, 0, ?_⟩, rfl⟩
  · show IsFrame (frB b0).data.toList
    rw [e]; exact hfr.1
  · show WriteOf r0 (got (frB b0).data.toList) 0 r1
    rw [e, hfr.2]; exact write_r1
theorem begS3 : StepOf Sb2 Sb3 [] := StepOf.deliver 0 0 Sb3 deliver_b
theorem ok_S0 : CSOk 0 S0 := ⟨fun k _ => ⟨ok_nil.1, ok_nil.2.1, ok_nil.2.2, Nat.le_refl _, Nat.le_refl _⟩, fun m hm => by cases hm⟩
theorem ok_b1 : CSOk 60011 Sb1 := by simpa using step_ok ok_S0 begS1
theorem ok_b2 : CSOk 120022 Sb2 := by simpa using step_ok ok_b1 begS2
theorem ok_b3 : CSOk 180033 Sb3 := by simpa using step_ok ok_b2 begS3
end Go.Proofs.YtamcclcbmenjdaaGreatDoor

/- 'choirlaw.Merges', for any list of texts of bulk at most 1048576: Merge answers the document's frame or error; what is handed in stays. The second form's statement and its card: its only condition is the row's own bound on the argument's bulk. -/
import Derived.Test.YtamcclcbmenjdaaGreatDoorMergesuptoG7
import Derived.Lib.SlBytesConst
import Derived.Test.YtamcclcbmenjdaaGreatDoorMergesuptoG2
/- sumBytes, Pack. -/
namespace Go.Proofs.YtamcclcbmenjdaaGreatDoor
open Go.RowKit Go.Lib

theorem fold_push (l : List UInt8) (s : ByteArray) : (l.map fun b => (b.toNat : Int)).foldl (fun r (n : Int) => r.push (UInt8.ofNat n.toNat)) s = ⟨s.data ++ l.toArray⟩ := by
  induction l generalizing s with
  | nil => simp
  | cons b l ih =>
    rw [List.map_cons, List.foldl_cons, ih]
    have e : (s.push (UInt8.ofNat ((b.toNat : Int)).toNat)).data = s.data.push b := by simp [ByteArray.push]
    rw [e]
    simp
/-- string(b), b a slice of bytes that the call owns. -/
theorem run_string_of {w : World} {base : Nat} {v : Value} {xs : List UInt8} (h : Bytes base w v xs) (hx : 0 < xs.length) :
    (convert 83 9 v).run Tryz.prog w = .ok (.string ⟨xs.toArray⟩) w := by
  obtain ⟨g, cap, rfl, _⟩ := ownsRow_some h hx
  rw [run_convert_bytes_string w _ _ _ _ _ _ Tryz.underlying83 Tryz.underlying5 Tryz.underlying9]
  have hc := World.ownsRow.cells (g := g) h rfl
  have hl : (loadCells ⟨g, 0, none⟩ xs.length).run Tryz.prog w = .ok ((xs.map fun b => (b.toNat : Int)).map (Value.int .u8)).toArray w := by
    have := run_firstCells_some (P := Tryz.prog) w 1 xs.length ⟨g, 0, none⟩ xs.length cap (Pl.Bs xs) (by rw [Pl.Bs_length]; omega) hc
    simp only [Builtin.firstCells, Nat.mul_one] at this
    rw [List.map_map]
    simpa [Pl.Bs, Function.comp_def, show Pl.B = fun x => Value.int .u8 x.toNat from rfl] using this
  rw [run_bytesToString w ⟨g, 0, none⟩ xs.length cap (xs.map fun b => (b.toNat : Int)) hl, fold_push]
  simp

/-- A number of 32 bits, the low byte first; the high byte first. -/
def le32 (n : Nat) : List UInt8 := [UInt8.ofNat (n % 256), UInt8.ofNat (n / 256 % 256), UInt8.ofNat (n / 65536 % 256), UInt8.ofNat (n / 16777216 % 256)]
def be32 (n : Nat) : List UInt8 := [UInt8.ofNat (n / 16777216 % 256), UInt8.ofNat (n / 65536 % 256), UInt8.ofNat (n / 256 % 256), UInt8.ofNat (n % 256)]
theorem Bs_le32 (n : Nat) : Pl.Bs (le32 n) = [.int .u8 ((n % 256 : Nat) : Int), .int .u8 ((n / 256 % 256 : Nat) : Int), .int .u8 ((n / 65536 % 256 : Nat) : Int), .int .u8 ((n / 16777216 % 256 : Nat) : Int)] := by
  simp only [le32, Pl.Bs, List.map_cons, List.map_nil, Pl.B]
  rw [Pl.u8_ofNat _ (by omega), Pl.u8_ofNat _ (by omega), Pl.u8_ofNat _ (by omega), Pl.u8_ofNat _ (by omega)]
theorem Bs_be32 (n : Nat) : Pl.Bs (be32 n) = [.int .u8 ((n / 16777216 % 256 : Nat) : Int), .int .u8 ((n / 65536 % 256 : Nat) : Int), .int .u8 ((n / 256 % 256 : Nat) : Int), .int .u8 ((n % 256 : Nat) : Int)] := by
  simp only [be32, Pl.Bs, List.map_cons, List.map_nil, Pl.B]
  rw [Pl.u8_ofNat _ (by omega), Pl.u8_ofNat _ (by omega), Pl.u8_ofNat _ (by omega), Pl.u8_ofNat _ (by omega)]

theorem Bs_le (n : Nat) (h : n ≤ 4294967295) : Pl.Bs (le32 n) = [.int .u8 ((n : Int) % 256), .int .u8 ((n : Int) / 256 % 256), .int .u8 ((n : Int) / 65536 % 256), .int .u8 ((n : Int) / 16777216)] := by
  rw [Bs_le32]
  have e1 : ((n % 256 : Nat) : Int) = (n : Int) % 256 := by omega
  have e2 : ((n / 256 % 256 : Nat) : Int) = (n : Int) / 256 % 256 := by omega
  have e3 : ((n / 65536 % 256 : Nat) : Int) = (n : Int) / 65536 % 256 := by omega
  have e4 : ((n / 16777216 % 256 : Nat) : Int) = (n : Int) / 16777216 := by omega
  rw [e1, e2, e3, e4]

set_option maxHeartbeats 400000 in
theorem sumBytes_any (s : ByteArray) (w : World) (hs : s.size ≤ maxLen) :
    Calls Tryz.prog 84 #[.string s] w fun e w' => ∃ v, e = .returned v ∧ Bytes w.heap.size w' v (le32 (Pl.crc s.data.toList)) ∧ Below w.heap.size w w' := by
  have hlt := Pl.crc_lt s.data.toList
  have C := hide (sum_any s w hs)
  generalize Pl.crc s.data.toList = n at *
  go_enter Tryz.func84, Tryz.ntmps84
  go_wp2_with fail
  refine C.out.mono ?_
  rintro e w' ⟨rfl, rfl⟩
  have hlt2 : n ≤ 4294967295 := by omega
  clear hlt C
  go_wp2
  go_ret
  refine ⟨_, rfl, ?_, (Below.refl _ _).alloc (Nat.le_refl _) _⟩
  have h := World.ownsRow_lit (base := w'.heap.size) (e := 5) (size := 1) w' #[.int .u8 ((n : Int) % 256), .int .u8 ((n : Int) / 256 % 256), .int .u8 ((n : Int) / 65536 % 256), .int .u8 ((n : Int) / 16777216)] 4 (Nat.le_refl _) (by decide) rfl
  unfold Bytes
  rw [Bs_le n hlt2]
  exact h

theorem row_add {W : World} {g : Nat} {C : List Value} (h : ∀ j, W.cell? ⟨g, j, none⟩ = C[j]?) : ∀ j v, C[j]? = some v → W.cell? ((⟨g, 0, none⟩ : Addr).add j) = some v := by
  intro j v hv
  have hadd : (⟨g, 0, none⟩ : Addr).add j = ⟨g, j, none⟩ := by unfold Addr.add; split <;> simp_all
  rw [hadd, h j]; exact hv
theorem Bs_be (n : Nat) (h : n ≤ 65535) : Pl.Bs (be32 n) = [.int .u8 ((n : Int) / 16777216), .int .u8 ((n : Int) / 65536), .int .u8 ((n : Int) / 256), .int .u8 ((n : Int) % 256)] := by
  rw [Bs_be32]
  have e1 : ((n % 256 : Nat) : Int) = (n : Int) % 256 := by omega
  have e2 : ((n / 256 % 256 : Nat) : Int) = (n : Int) / 256 := by omega
  have e3 : ((n / 65536 % 256 : Nat) : Int) = (n : Int) / 65536 := by omega
  have e4 : ((n / 16777216 % 256 : Nat) : Int) = (n : Int) / 16777216 := by omega
  rw [e1, e2, e3, e4]
/-- The frame of a payload. -/
def headOf (p : List UInt8) : List UInt8 := [67, 72, 1] ++ be32 p.length ++ p
def frameOf (p : List UInt8) : List UInt8 := headOf p ++ le32 (Pl.crc (headOf p))

section
variable {P : Program} (w : World)
/-- append onto a slice that has no room: a new row. -/
theorem wpList_append_full {ops : Array Oper} {rest : List Oper} {o : Oper} {a : Act} {Q : Exit → Act → World → Prop} (hgd : o.guard = none) (s x : Operand) (t : TypeId)
    (ho : o.op = .call { callee := .builtin .append, args := #[s, x], argTypes := #[t, t] })
    (e : TypeId) (i : TypeInfo) (z : Value) (bytes : Nat) (ht : P.underlying t = some (.slice e)) (hi : P.info? e = some i) (hz : i.zero = some z)
    (hsize : i.size = 1) (hby : i.bytes = bytes) (hzs : z.cells.size = 1)
    (b : Addr) (n : Nat) (olds : List Value) (hs : a.eval s = .slice (some b) n n) (hlo : olds.length = n) (holds : ∀ j v, olds[j]? = some v → w.cell? (b.add j) = some v)
    (ad : Addr) (m c : Nat) (news : List Value) (hx : a.eval x = .slice (some ad) m c) (hl : news.length = m) (hnews : ∀ j u, news[j]? = some u → w.cell? (ad.add j) = some u) (hm : 0 < m)
    (h63 : n + m ≤ maxLen) (hbytes : (n + m) * bytes ≤ 140737488355328)
    (h : ∀ v' w', w'.ownsRow w.heap.size e 1 v' (n + m) (olds ++ news) → Below w.heap.size w w' → wpList P ops Q rest (a.put o.dst v') w') : wpList P ops Q (o :: rest) a w := by
  refine wpList_plain hgd fun K hK => ?_
  have hsmall : n + m ≤ 9223372036854775807 := by simp only [maxLen] at h63; omega
  have hr := run_append_grow (P := P) w t o.type e i z ht hi hz b n n olds (by rw [hsize]; omega) holds ad m c news (by rw [hsize]; omega) hnews (by omega) (by omega) (growslice_fits (by omega) (by rw [hby]; exact hbytes))
  unfold Oper.wp execOp
  simp only [ho, resolve, invoke, builtin, Sem.run_bind, Sem.run_pure, Result.andThen_ok, List.map_toArray, List.map_cons, List.map_nil, hs, hx, hr]
  have hge := grownCap_ge w (n + m) n e
  have hcm : grownCap w (n + m) n e ≤ maxLen := grownCap_le_maxLen w (n + m) n e h63
  refine hK _ _ (h _ _ ⟨by simp; omega, .inr ⟨w.heap.size, _, _, rfl, Nat.le_refl _, _root_.Go.heap_alloc_new w.drew _, hge, hcm, ?_, ?_⟩⟩ (((Below.refl _ _).drew).alloc (Nat.le_refl _) _))
  · simp only [Array.size_append, List.size_toArray, size_zeroCells, hzs, hlo, hl]; omega
  · simp only [Array.toList_append, List.append_assoc]
    rw [← List.append_assoc, show (n + m) * 1 = (olds ++ news).length by simp; omega]
    exact List.take_left
end

set_option maxRecDepth 100000 in
set_option maxHeartbeats 400000 in
theorem Pack_any (B : Nat) (v : Value) (bs : List Ser) (w : World) (hb : BatchAt w B v bs) (hB : B ≤ w.heap.size) (hT : Tabs w) (hF : Fits bs) (hpl : (payload bs).length ≤ 60000) (hpp : 0 < (payload bs).length) :
    Calls Tryz.prog 47 #[v] w fun e w' => e = .returned (.string ⟨(frameOf (payload bs)).toArray⟩) ∧ Below w.heap.size w w' := by
  obtain ⟨i0, hi, hz0, hz1, hz2⟩ := info_parts Tryz.infoU8
  have C := hide (packPayload_any B v bs w hb hB hT hF)
  have kc := fun (w : World) (C : Array Value) (n c : Nat) => Lib.run_convert_bytes_const (P := Tryz.prog) w 83 5 C n c Tryz.underlying83 Tryz.underlying5
  generalize payload bs = p at *
  clear hb hT hF
  go_enter Tryz.func47, Tryz.ntmps47
  go_wp2_with fail
  refine C.out.mono ?_
  rintro e w1 ⟨pv, rfl, hp, hb1⟩
  have hpn : ∃ pa pc, pv = .slice pa p.length pc := by
    rcases hp.2 with ⟨h1, h2⟩ | ⟨g, cap, cur, h1, _⟩
    · exact ⟨_, _, by rw [h1, ← h2]⟩
    · exact ⟨_, _, h1⟩
  obtain ⟨pa, pc, hpv⟩ := hpn
  rw [hpv] at hp ⊢
  have HP := hide hp
  have HB1 := hide hb1
  clear hp hb1 hpv C
  have hp0 : 0 ≤ p.length := Nat.zero_le _
  go_wp2_with (first | (at_builtin; refine wpList_append_full _ rfl (.tmp 11) (.tmp 23) 83 rfl 5 i0 (.int .u8 0) 1 Tryz.underlying83 hi hz0 hz1 hz2 rfl ⟨w1.heap.size, 0, none⟩ 3 [.int .u8 67, .int .u8 72, .int .u8 1] rfl rfl ?d1 ⟨w1.heap.size + 1, 0, none⟩ 4 4 [.int .u8 ((p.length : Int) / 16777216), .int .u8 ((p.length : Int) / 65536), .int .u8 ((p.length : Int) / 256), .int .u8 ((p.length : Int) % 256)] rfl rfl ?d2 (by decide) (by decide) (by decide) ?_))
  case d1 =>
    refine row_add fun j => ?_
    rw [World.cell?_alloc_lt _ _ _ (by simp), World.cell?_alloc_mark]; simp
  case d2 =>
    refine row_add fun j => ?_
    have h := World.cell?_alloc_new (w1.alloc (.cells #[.int .u8 67, .int .u8 72, .int .u8 1] 5 (3, 4))) #[.int .u8 ((p.length : Int) / 16777216), .int .u8 ((p.length : Int) / 65536), .int .u8 ((p.length : Int) / 256), .int .u8 ((p.length : Int) % 256)] 5 j
    simp only [World.size_alloc] at h
    rw [h]; simp
  intro v2 w2 hown2 hb2
  have B2 : Bytes (w1.heap.size + 1 + 1) w2 v2 ([67, 72, 1] ++ be32 p.length) := by
    refine bytes_app (n := 7) ?_
    rw [Bs_be p.length (by omega)]; exact hown2
  have hb2' : Below w1.heap.size w1 w2 := (((Below.refl w1.heap.size w1).alloc (Nat.le_refl _) _).alloc (by simp) _).trans (hb2.mono (by omega))
  have hpos : 0 < p.length := hpp
  obtain ⟨g, pc', hpv, hg⟩ := ownsRow_some HP.out hpos
  cases hpv
  have hgl : g < w1.heap.size := (World.ownsRow.lt HP.out g rfl).2
  have hcp : ∀ j u, (Pl.Bs p)[j]? = some u → w2.cell? ((⟨g, 0, none⟩ : Addr).add j) = some u := World.ownsRow.cells (g := g) (HP.out.kept (w' := w2) fun q e => by
    obtain rfl : g = q := by simpa [Value.ownBlock] using e
    exact hb2'.block g hgl) rfl
  have HC := hide hcp
  have HB2 := hide (HB1.out.trans (hb2'.mono HB1.out.size))
  have HBy := hide B2
  have hsz2 : w1.heap.size + 1 + 1 ≤ w2.heap.size := by have := hb2.size; simp at this; omega
  have hs1 := HB1.out.size
  have hhl : ([67, 72, 1] ++ be32 p.length).length = 7 := rfl
  clear hown2 hb2 B2 hb2' hcp HP HB1
  go_wp2_with (first | (at_builtin; refine wpList_append_heir _ rfl (.tmp 25) (.tmp 26) 83 rfl (w1.heap.size + 1 + 1) 5 i0 (.int .u8 0) 1 1 Tryz.underlying83 hi hz0 hz1 hz2 rfl (by decide) _ _ _ rfl HBy.out ⟨g, 0, none⟩ p.length pc (Pl.Bs p) rfl ?c0 ?c1 ?c2 ?c3 ?c4 hsz2 ?_))
  case c0 => rw [Pl.Bs_length, Nat.mul_one]
  case c1 => exact HC.out
  case c2 => exact oneBs _
  case c3 => unfold maxLen; rw [hhl]; omega
  case c4 => rw [hhl]; omega
  intro v3 w3 hown3 hgrow3 hheir3
  have B3 : Bytes (w1.heap.size + 1 + 1) w3 v3 (headOf p) := bytes_app hown3
  have hb3 : Below w.heap.size w w3 := HB2.out.trans ((Below.refl _ _).grown hgrow3 (by omega) (fun k e => by have := (World.ownsRow.lt HBy.out k e).1; omega))
  have hhd : (headOf p).length ≤ 60007 := by unfold headOf; rw [List.length_append, hhl]; omega
  have hcv := run_string_of B3 (by unfold headOf; simp)
  have CS := hide (sumBytes_any ⟨(headOf p).toArray⟩ w3 (by show (headOf p).toArray.size ≤ _; simp; unfold maxLen; omega))
  have HB3 := hide hb3
  have HY3 := hide B3
  have hsz3 : w1.heap.size + 1 + 1 ≤ w3.heap.size := by have := hgrow3.size; omega
  clear hown3 hgrow3 hheir3 B3 hb3 HC HBy HB2
  go_wp2_with fail
  refine CS.out.mono ?_
  rintro e w4 ⟨sv, rfl, hsb, hb4⟩
  obtain ⟨g4, c4, hsv, hg4⟩ := ownsRow_some hsb (by simp [le32])
  rw [hsv] at hsb ⊢
  have hB4 : Bytes (w1.heap.size + 1 + 1) w4 v3 (headOf p) := HY3.out.kept fun k e => hb4.block k (World.ownsRow.lt HY3.out k e).2
  have hcs : ∀ j u, (Pl.Bs (le32 (Pl.crc (headOf p))))[j]? = some u → w4.cell? ((⟨g4, 0, none⟩ : Addr).add j) = some u := World.ownsRow.cells (g := g4) hsb rfl
  have HC4 := hide hcs
  have HY4 := hide hB4
  have HB4 := hide (HB3.out.trans (hb4.mono HB3.out.size))
  have hsz4 : w1.heap.size + 1 + 1 ≤ w4.heap.size := by have := hb4.size; omega
  have h4l : (le32 (Pl.crc (headOf p))).length = 4 := rfl
  clear hB4 hcs hsb hb4 hsv CS HY3 HB3 hcv
  go_wp2_with (first | (at_builtin; refine wpList_append_heir _ rfl (.tmp 28) (.tmp 31) 83 rfl (w1.heap.size + 1 + 1) 5 i0 (.int .u8 0) 1 1 Tryz.underlying83 hi hz0 hz1 hz2 rfl (by decide) _ _ _ rfl HY4.out ⟨g4, 0, none⟩ 4 c4 (Pl.Bs (le32 (Pl.crc (headOf p)))) rfl rfl ?c1 ?c2 ?c3 ?c4 hsz4 ?_))
  case c1 => exact HC4.out
  case c2 => exact oneBs _
  case c3 => unfold maxLen; omega
  case c4 => omega
  intro v5 w5 hown5 hgrow5 hheir5
  have B5 : Bytes (w1.heap.size + 1 + 1) w5 v5 (frameOf p) := bytes_app hown5
  have hcv := run_string_of B5 (by unfold frameOf headOf; simp)
  have HB5 := hide (HB4.out.trans ((Below.refl _ _).grown hgrow5 (by omega) (fun k e => by have := (World.ownsRow.lt HY4.out k e).1; omega)))
  clear hown5 hgrow5 hheir5 B5 HC4 HY4 HB4
  go_wp2
  go_ret
  exact ⟨rfl, HB5.out⟩
end Go.Proofs.YtamcclcbmenjdaaGreatDoor

/- Check, Encode. -/
namespace Go.Proofs.YtamcclcbmenjdaaGreatDoor
open Go.RowKit Go.Lib

theorem fits_of {bs : List Ser} (h1 : BatchOk bs) (h2 : LimitsOk bs) : Fits bs := by
  have hg : ∀ s ∈ bs, ∃ i, i < bs.length ∧ bs[i]? = some s := fun s hs => by
    obtain ⟨i, hi, e⟩ := List.mem_iff_getElem.1 hs
    exact ⟨i, hi, by rw [List.getElem?_eq_getElem hi, e]⟩
  refine ⟨h2.2, fun s hs => ?_, fun s hs => ?_, fun s hs l hl => ?_⟩
  · obtain ⟨i, hi, e⟩ := hg s hs; exact (h2.1 i s hi e).1
  · obtain ⟨i, hi, e⟩ := hg s hs; exact ⟨(h1.1 i s hi e).2.1, (h2.1 i s hi e).2⟩
  · obtain ⟨i, hi, e⟩ := hg s hs
    obtain ⟨j, hj, e2⟩ := List.mem_iff_getElem.1 hl
    have := (h1.1 i s hi e).1.1 j l hj (by rw [List.getElem?_eq_getElem hj, e2])
    exact ⟨this.2.1, this.2.2⟩
theorem varint_pos (n : Nat) : 0 < (Pl.varint n).length := by
  unfold Pl.varint Pl.varintF; split <;> simp
theorem payload_bounds {bs : List Ser} (h : Fits bs) : (payload bs).length ≤ 60000 ∧ 0 < (payload bs).length := by
  have h1 := Pl.varint_length (sortedTexts (allTexts bs)).length
  have hp := varint_pos (sortedTexts (allTexts bs)).length
  have hs := allTexts_small bs h
  have h2 := textsBytes_len (sortedTexts (allTexts bs)) fun x hx => hs.2 x (sortedTexts_mem hx)
  have h3 := sortedTexts_len (allTexts bs)
  have h4 := Pl.varint_length bs.length
  have h5 := seriesAll_len (sortedTexts (allTexts bs)) bs fun s hs => ⟨h.labels s hs, (h.samples s hs).2⟩
  have h6 := h.series
  have h7 := hs.1
  simp only [payload, List.length_append]
  constructor <;> omega

set_option maxRecDepth 100000 in
set_option maxHeartbeats 400000 in
/-- Encode: the error, or the frame. -/
theorem encode_any (B : Nat) (v : Value) (bs : List Ser) (w : World) (hS : BatchAt w B v bs) (hB : B ≤ w.heap.size) (hT : Tabs w) (hsm : Small bs) :
    Calls Tryz.prog 32 #[v] w fun e w' => (∃ n : Nat, Code bs n ∧ e = .returned (.tuple #[.string (if n = 0 then ⟨(frameOf (payload bs)).toArray⟩ else ByteArray.empty), .int .i64 n])) ∧ Below w.heap.size w w' := by
  obtain ⟨va, vc, rfl, _⟩ := id hS
  have C1 := hide (check_any B w.heap.size _ bs (w.alloc (.cells #[.slice va bs.length vc] 39)) (World.cell?_alloc_new _ _ _ 0) (hS.kept fun k hk => heap_alloc_old w _ (by omega)) (by simp) (by simp; omega) hsm)
  have HS := hide hS
  have HT := hide hT
  have h3 := hT.lt
  clear hS hsm hT
  go_enter Tryz.func32, Tryz.ntmps32
  go_wp2_with fail
  refine C1.out.mono ?_
  rintro e w1 ⟨⟨n, rfl, hn⟩, hb1⟩
  have hb1 : Below w.heap.size w w1 := ((Below.refl w.heap.size w).alloc (Nat.le_refl _) _).trans (hb1.mono (by simp))
  have HB1 := hide hb1
  have HN := hide hn
  by_cases h0 : n = 0
  · subst h0
    have hok : BatchOk bs ∧ LimitsOk bs := by
      rcases hn with ⟨h, _⟩ | ⟨h, _⟩ | ⟨_, h⟩
      · cases h
      · cases h
      · exact h
    have hF := fits_of hok.1 hok.2
    have hp := payload_bounds hF
    have C2 := hide (Pack_any B _ bs w1 (HS.out.below hb1 hB) (by have := hb1.size; omega) (HT.out.below hb1 (by omega)) hF hp.1 hp.2)
    clear hb1 hn hok hF hp C1
    go_wp2_with fail
    refine C2.out.mono ?_
    rintro e w2 ⟨rfl, hb2⟩
    have HB2 := hide (HB1.out.trans (hb2.mono HB1.out.size))
    clear hb2
    go_wp2
    go_ret2
    exact ⟨⟨0, HN.out, rfl⟩, HB2.out⟩
  · have hne : ((n : Int) != 0) = true := by simp; omega
    have HE : Hid ((if n = 0 then (⟨(frameOf (payload bs)).toArray⟩ : ByteArray) else ByteArray.empty) = ByteArray.empty) := if_neg h0
    clear hb1 hn C1
    go_wp2
    go_ret2
    exact ⟨⟨n, HN.out, by rw [HE.out]; rfl⟩, HB1.out⟩
end Go.Proofs.YtamcclcbmenjdaaGreatDoor

/- The bit reader: take. -/
namespace Go.Proofs.YtamcclcbmenjdaaGreatDoor
open Go.RowKit Go.Lib

/-- A bit reader at ⟨rb, ro⟩: at the bit 'at' of s, in state st. -/
structure BR (w : World) (rb ro : Nat) (s : ByteArray) (pos st : Nat) : Prop where
  c0 : w.cell? ⟨rb, ro, none⟩ = some (.string s)
  c1 : w.cell? ⟨rb, ro + 1, none⟩ = some (.int .i64 pos)
  c2 : w.cell? ⟨rb, ro + 2, none⟩ = some (.int .i64 st)
  f1 : w.frozen? ⟨rb, ro + 1, none⟩ = false
  f2 : w.frozen? ⟨rb, ro + 2, none⟩ = false
/-- What its methods leave: the two numbers behind its text turn, no more. -/
structure Read (w w' : World) (rb ro : Nat) : Prop where
  os : w'.os = w.os
  tape : w'.tape = w.tape
  output : w'.output = w.output
  size : w.heap.size = w'.heap.size
  block : ∀ k, k ≠ rb → w'.heap[k]? = w.heap[k]?
  cells : ∀ o, o ≠ ro + 1 → o ≠ ro + 2 → w'.cell? ⟨rb, o, none⟩ = w.cell? ⟨rb, o, none⟩
  frozen : ∀ o, w'.frozen? ⟨rb, o, none⟩ = w.frozen? ⟨rb, o, none⟩
theorem Read.refl (w : World) (rb ro : Nat) : Read w w rb ro := ⟨rfl, rfl, rfl, rfl, fun _ _ => rfl, fun _ _ _ => rfl, fun _ => rfl⟩
theorem Read.trans {w w1 w2 : World} {rb ro : Nat} (h : Read w w1 rb ro) (k : Read w1 w2 rb ro) : Read w w2 rb ro :=
  ⟨k.os.trans h.os, k.tape.trans h.tape, k.output.trans h.output, h.size.trans k.size, fun i hi => (k.block i hi).trans (h.block i hi), fun o h1 h2 => (k.cells o h1 h2).trans (h.cells o h1 h2), fun o => (k.frozen o).trans (h.frozen o)⟩
theorem Read.drewN {w w1 : World} {rb ro : Nat} (h : Read w w1 rb ro) (q : Nat) : Read w (w1.drewN q) rb ro := ⟨h.os, h.tape, h.output, h.size, h.block, h.cells, h.frozen⟩
theorem Read.set {w : World} {rb ro o : Nat} (u : Value) (ho : o = ro + 1 ∨ o = ro + 2) : Read w (w.setCell ⟨rb, o, none⟩ u) rb ro :=
  ⟨rfl, rfl, rfl, by simp, fun k hk => heap_setCell_other _ _ _ _ hk, fun j h1 h2 => World.cell?_setCell_other _ _ _ _ (fun e => by have : o = j := congrArg Addr.off e; omega), fun j => by rw [World.frozen?_setCell]⟩
theorem BR.drewN {w : World} {rb ro pos st : Nat} {s : ByteArray} (h : BR w rb ro s pos st) (q : Nat) : BR (w.drewN q) rb ro s pos st := ⟨h.c0, h.c1, h.c2, h.f1, h.f2⟩
theorem BR.setPos {w : World} {rb ro pos st : Nat} {s : ByteArray} (h : BR w rb ro s pos st) (p : Nat) : BR (w.setCell ⟨rb, ro + 1, none⟩ (.int .i64 p)) rb ro s p st := by
  refine ⟨?_, World.cell?_setCell_same _ _ _ h.c1, ?_, by rw [World.frozen?_setCell]; exact h.f1, by rw [World.frozen?_setCell]; exact h.f2⟩
  · rw [World.cell?_setCell_other _ _ _ _ (fun e => absurd (congrArg Addr.off e) (by simp))]; exact h.c0
  · rw [World.cell?_setCell_other _ _ _ _ (fun e => absurd (congrArg Addr.off e) (by simp))]; exact h.c2
theorem BR.setState {w : World} {rb ro pos st : Nat} {s : ByteArray} (h : BR w rb ro s pos st) (p : Nat) : BR (w.setCell ⟨rb, ro + 2, none⟩ (.int .i64 p)) rb ro s pos p := by
  refine ⟨?_, ?_, World.cell?_setCell_same _ _ _ h.c2, by rw [World.frozen?_setCell]; exact h.f1, by rw [World.frozen?_setCell]; exact h.f2⟩
  · rw [World.cell?_setCell_other _ _ _ _ (fun e => absurd (congrArg Addr.off e) (by simp))]; exact h.c0
  · rw [World.cell?_setCell_other _ _ _ _ (fun e => absurd (congrArg Addr.off e) (by simp))]; exact h.c1

/-- The bit number i, and the number that k bits from i on make. -/
def bitAt (l : List UInt8) (i : Nat) : Nat := (l.getD (i / 8) 0).toNat / 2 ^ (7 - i % 8) % 2
def valTo (l : List UInt8) (i : Nat) : Nat → Nat
  | 0 => 0
  | k + 1 => 2 * valTo l i k + bitAt l (i + k)
theorem valTo_lt (l : List UInt8) (i k : Nat) : valTo l i k < 2 ^ k := by
  induction k with
  | zero => simp [valTo]
  | succ k ih => rw [valTo, Nat.pow_succ]; have : bitAt l (i + k) < 2 := Nat.mod_lt _ (by decide); omega

theorem and_bit (s : ByteArray) (m : Nat) (h : m / 8 < s.size) : Go.bits .and .u8 ((s[m / 8].toNat : Int) / 2 ^ (7 - m % 8)) 1 = ((bitAt s.data.toList m : Nat) : Int) := by
  have e : s.data.toList.getD (m / 8) 0 = s[m / 8] := by
    rw [List.getD_eq_getElem?_getD, List.getElem?_eq_getElem (by simpa using h)]; rfl
  have hx : ((s[m / 8].toNat : Int) / 2 ^ (7 - m % 8)) = ((s[m / 8].toNat / 2 ^ (7 - m % 8) : Nat) : Int) := by simp
  have hlt : s[m / 8].toNat / 2 ^ (7 - m % 8) < 2 ^ 8 := Nat.lt_of_le_of_lt (Nat.div_le_self _ _) s[m / 8].toNat_lt
  have hb := bits_mask .u8 8 (by decide) wraps_u8 1 (by decide) ((s[m / 8].toNat / 2 ^ (7 - m % 8) : Nat) : Int) (Int.natCast_nonneg _) (by exact_mod_cast hlt)
  rw [hx, bitAt, e]
  simpa using hb
theorem or_bit64 (V b : Nat) (hV : V < 9223372036854775808) (hb : b ≤ 1) : Go.bits .or .u64 ((V : Int) * 2) (b : Int) = ((2 * V + b : Nat) : Int) := by
  have h := bits_join .u64 64 (by decide) (fun n h0 h1 => by rw [IntKind.wrap_u64]; omega) 1 ((V : Int) * 2) b (by omega) (by omega) (by omega) (by omega) (by omega) (by omega)
  rw [h]; omega

set_option maxRecDepth 100000 in
set_option maxHeartbeats 400000 in
/-- Too few bits are left: 0, and it is broken. -/
theorem take_short (rb ro pos st width : Nat) (s : ByteArray) (w : World) (H : BR w rb ro s pos st) (hs : s.size ≤ 140737488355328) (hp : pos ≤ 8 * s.size) (hw : width ≤ 64) (hsh : 8 * s.size < pos + width) :
    Calls Tryz.prog 149 #[.pointer (some ⟨rb, ro, none⟩), .int .i64 width] w fun e w' => e = .returned (.int .u64 0) ∧ BR w' rb ro s pos 1 ∧ Read w w' rb ro := by
  have c0 := H.c0
  have c1 := H.c1
  have c2 := H.c2
  have f2 := H.f2
  have HF := hide fun q => (H.drewN q).setState 1
  have ht : (8 : Int) * s.size - pos < width := by omega
  have hb1 : IntKind.i64.wrap ((8 : Int) * s.size) = 8 * s.size := by rw [IntKind.wrap_i64]; omega
  have hb2 : IntKind.i64.wrap ((8 : Int) * s.size - pos) = 8 * s.size - pos := by rw [IntKind.wrap_i64]; omega
  clear H
  go_enter Tryz.func149, Tryz.ntmps149
  go_wp2
  go_quiet (fail)
  go_wp2
  go_ret
  exact ⟨rfl, HF.out _, ((Read.refl w rb ro).drewN _).trans (Read.set _ (.inr rfl))⟩

set_option maxRecDepth 100000 in
set_option maxHeartbeats 400000 in
theorem take_long (rb ro pos st width : Nat) (s : ByteArray) (w : World) (H : BR w rb ro s pos st) (hs : s.size ≤ 140737488355328) (hw : width ≤ 64) (hsh : pos + width ≤ 8 * s.size) :
    Calls Tryz.prog 149 #[.pointer (some ⟨rb, ro, none⟩), .int .i64 width] w fun e w' => e = .returned (.int .u64 (valTo s.data.toList pos width)) ∧ BR w' rb ro s (pos + width) st ∧ Read w w' rb ro := by
  have c0 := H.c0
  have c1 := H.c1
  have ht : ¬ ((8 : Int) * s.size - pos < width) := by omega
  have htd : decide ((8 : Int) * s.size - pos < width) = false := decide_eq_false ht
  have hb1 : IntKind.i64.wrap ((8 : Int) * s.size) = 8 * s.size := by rw [IntKind.wrap_i64]; omega
  have hb2 : IntKind.i64.wrap ((8 : Int) * s.size - pos) = 8 * s.size - pos := by rw [IntKind.wrap_i64]; omega
  have HH := hide H
  clear H
  go_enter Tryz.func149, Tryz.ntmps149
  go_wp2
  go_quiet (fail)
  clear hb1 hb2 htd ht c0 c1
  go_wp2
  go_loopw [5, 6, 24] (fun n _ i wr => ∃ k : Nat, k ≤ width ∧ i = .int .i64 k ∧ n = .int .u64 (valTo s.data.toList pos k) ∧ BR wr rb ro s (pos + k) st ∧ Read w wr rb ro) (fun _ _ i _ => width - (intOf i).toNat)
  case atStart => exact ⟨0, Nat.zero_le _, rfl, rfl, by simpa using HH.out.drewN _, (Read.refl w rb ro).drewN _⟩
  case round =>
    obtain ⟨k, hk, rfl, rfl, hB, hR⟩ := hrel
    obtain ⟨m, hm⟩ : ∃ m, m = pos + k := ⟨_, rfl⟩
    rw [← hm] at hB
    have HM := hide hm
    have hmb : m ≤ 8 * s.size := by omega
    have HB := hide hB
    have HR := hide hR
    have c0 := hB.c0
    have c1 := hB.c1
    have f1 := hB.f1
    clear hB hR HH
    by_cases hlt : k < width
    · have hq8 : m / 8 < s.size := by omega
      have hq9 : (m : Int) / 8 < (s.size : Int) := by omega
      have hm1 : m ≤ 1125899906842624 := by omega
      have hw8 : IntKind.i64.wrap ((m : Int) / 8) = (m : Int) / 8 := by rw [IntKind.wrap_i64]; omega
      have h08 : 0 ≤ (m : Int) / 8 := by omega
      have htn : ((m : Int) / 8).toNat = m / 8 := by omega
      have hbit := and_bit s m hq8
      have hβ : bitAt s.data.toList m ≤ 1 := by have : bitAt s.data.toList m < 2 := Nat.mod_lt _ (by decide); omega
      have hV : valTo s.data.toList pos k < 9223372036854775808 := Nat.lt_of_lt_of_le (valTo_lt _ _ k) (Nat.pow_le_pow_right (by decide) (by omega : k ≤ 63))
      have hnext : valTo s.data.toList pos (k + 1) = 2 * valTo s.data.toList pos k + bitAt s.data.toList m := by rw [valTo, hm]
      have HNx := hide hnext
      clear hm hnext
      generalize bitAt s.data.toList m = β at *
      generalize valTo s.data.toList pos k = V at *
      have hor := or_bit64 V β hV hβ
      go_wp2
      go_region
      have HB2 : Hid (BR (wr.setCell ⟨rb, ro + 1, none⟩ (.int .i64 ((m : Int) + 1))).drew rb ro s (pos + (k + 1)) st) := by
        have h := (HB.out.setPos (m + 1)).drewN 1
        have e : m + 1 = pos + (k + 1) := by rw [HM.out]; omega
        rw [← e]
        have e2 : ((m + 1 : Nat) : Int) = (m : Int) + 1 := by omega
        rw [e2] at h
        exact h
      have HR2 : Hid (Read w (wr.setCell ⟨rb, ro + 1, none⟩ (.int .i64 ((m : Int) + 1))).drew rb ro) := (HR.out.trans (Read.set _ (.inl rfl))).drewN 1
      clear HB HR HM
      go_wp2
      go_roundw
      case rel => exact ⟨k + 1, by omega, by go_num, val_int (by rw [HNx.out]; simp), HB2.out, HR2.out⟩
      case measure => simp [intOf]; omega
    · have hke : k = width := by omega
      rw [hke] at hm
      have HX := hide (show BR wr rb ro s (pos + width) st by rw [← hm]; exact HB.out)
      have HV : Hid (valTo s.data.toList pos k = valTo s.data.toList pos width) := by show _ = _; rw [hke]
      clear hm hke HM HB
      go_wp2
      go_ret
      exact ⟨ret_int (by rw [HV.out]), HX.out, HR.out⟩
end Go.Proofs.YtamcclcbmenjdaaGreatDoor

/- The bit reader: take in one word, takeMark. -/
namespace Go.Proofs.YtamcclcbmenjdaaGreatDoor
open Go.RowKit Go.Lib

/-- What take answers, and where the reader stands behind it. -/
def tk (s : ByteArray) (pos st width : Nat) : Nat × Nat × Nat := if 8 * s.size < pos + width then (0, pos, 1) else (valTo s.data.toList pos width, pos + width, st)
theorem take_any (rb ro pos st width : Nat) (s : ByteArray) (w : World) (H : BR w rb ro s pos st) (hs : s.size ≤ 140737488355328) (hp : pos ≤ 8 * s.size) (hw : width ≤ 64) :
    Calls Tryz.prog 149 #[.pointer (some ⟨rb, ro, none⟩), .int .i64 width] w fun e w' => e = .returned (.int .u64 (tk s pos st width).1) ∧ BR w' rb ro s (tk s pos st width).2.1 (tk s pos st width).2.2 ∧ Read w w' rb ro := by
  by_cases h : 8 * s.size < pos + width
  · have e : tk s pos st width = (0, pos, 1) := if_pos h
    rw [e]
    exact take_short rb ro pos st width s w H hs hp hw h
  · have e : tk s pos st width = (valTo s.data.toList pos width, pos + width, st) := if_neg h
    rw [e]
    exact take_long rb ro pos st width s w H hs hw (by omega)
theorem tk_pos (s : ByteArray) (pos st width : Nat) (hp : pos ≤ 8 * s.size) : (tk s pos st width).2.1 ≤ 8 * s.size := by
  unfold tk; split
  · exact hp
  · show pos + width ≤ _; omega
theorem tk_lt (s : ByteArray) (pos st width : Nat) : (tk s pos st width).1 < 2 ^ width := by
  unfold tk; split
  · exact Nat.two_pow_pos _
  · exact valTo_lt _ _ _

/-- A mark: how many ones, r at most, and where the reader stands behind it. -/
def mk (s : ByteArray) : Nat → Nat → Nat → Nat × Nat × Nat
  | 0, pos, st => (0, pos, st)
  | r + 1, pos, st => if (tk s pos st 1).1 = 1 then ((mk s r (tk s pos st 1).2.1 (tk s pos st 1).2.2).1 + 1, (mk s r (tk s pos st 1).2.1 (tk s pos st 1).2.2).2) else (0, (tk s pos st 1).2)

set_option maxRecDepth 100000 in
set_option maxHeartbeats 400000 in
theorem takeMark_any (rb ro pos st last : Nat) (s : ByteArray) (w : World) (H : BR w rb ro s pos st) (hs : s.size ≤ 140737488355328) (hp : pos ≤ 8 * s.size) (hl : last ≤ 4) :
    Calls Tryz.prog 171 #[.pointer (some ⟨rb, ro, none⟩), .int .i64 last] w fun e w' => e = .returned (.int .i64 (mk s last pos st).1) ∧ BR w' rb ro s (mk s last pos st).2.1 (mk s last pos st).2.2 ∧ Read w w' rb ro := by
  have HH := hide H
  clear H
  go_enter Tryz.func171, Tryz.ntmps171
  go_wp2
  go_loopw [5] (fun v wr => ∃ (k p q : Nat), k ≤ last ∧ v = .int .i64 k ∧ p ≤ 8 * s.size ∧ BR wr rb ro s p q ∧ Read w wr rb ro ∧ Hid (mk s last pos st = ((mk s (last - k) p q).1 + k, (mk s (last - k) p q).2))) (fun v _ => last - (intOf v).toNat)
  case atStart => exact ⟨0, pos, st, Nat.zero_le _, rfl, hp, HH.out, Read.refl _ _ _, rfl⟩
  case round =>
    obtain ⟨k, p, q, hk, rfl, hpq, hB, hR, HE⟩ := hrel
    have HB := hide hB
    have HR := hide hR
    clear hB hR HH
    by_cases hlt : k < last
    · have C := hide (take_any rb ro p q 1 s wr HB.out hs hpq (by omega))
      have hp1 := tk_pos s p q 1 hpq
      have hx := tk_lt s p q 1
      have HS : Hid (mk s (last - k) p q = if (tk s p q 1).1 = 1 then ((mk s (last - (k + 1)) (tk s p q 1).2.1 (tk s p q 1).2.2).1 + 1, (mk s (last - (k + 1)) (tk s p q 1).2.1 (tk s p q 1).2.2).2) else (0, (tk s p q 1).2)) := by
        show _ = _
        rw [show last - k = (last - (k + 1)) + 1 by omega, mk]
      generalize tk s p q 1 = t at *
      obtain ⟨t1, t2, t3⟩ := t
      simp only at C hp1 hx HS
      go_wp2_with fail
      refine C.out.mono ?_
      rintro e w2 ⟨rfl, hB2, hR2⟩
      have HB2 := hide hB2
      have HR2 := hide (HR.out.trans hR2)
      clear hB2 hR2 C HB HR
      by_cases h1 : t1 = 1
      · subst h1
        simp only [if_true] at HS
        go_wp2
        go_roundw
        case rel => exact ⟨k + 1, t2, t3, by omega, by go_num, hp1, HB2.out, HR2.out, by show _ = _; rw [HE.out, HS.out]; simp only [Nat.add_assoc, Nat.add_comm 1 k]⟩
        case measure => simp [intOf]; omega
      · have h1b : ((t1 : Int) == 1) = false := by simp; omega
        have hE2 : mk s last pos st = (k, t2, t3) := by rw [HE.out, HS.out, if_neg h1]; simp
        have HE2 := hide hE2
        clear hE2
        go_wp2
        go_ret
        rw [HE2.out]
        exact ⟨rfl, HB2.out, HR2.out⟩
    · have hE2 : mk s last pos st = (k, p, q) := by rw [HE.out, show last - k = 0 by omega, mk]; simp
      have HE2 := hide hE2
      clear hE2
      go_wp2
      go_ret
      rw [HE2.out]
      exact ⟨rfl, HB.out, HR.out⟩
end Go.Proofs.YtamcclcbmenjdaaGreatDoor

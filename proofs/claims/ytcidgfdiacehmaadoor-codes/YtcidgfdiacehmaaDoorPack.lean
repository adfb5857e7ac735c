/- sumBytes, Pack. -/
import Derived.Test.YtcidgfdiacehmaaDoorPayload
import Derived.Lib.SlBytesConst
namespace Go.Proofs.YtcidgfdiacehmaaDoor
open Go.RowKit Go.Lib

theorem fold_push (l : List UInt8) (s : ByteArray) : (l.map fun b => (b.toNat : Int)).foldl (fun r (n : Int) => r.push (UInt8.ofNat n.toNat)) s = ⟨s.data ++ l.toArray⟩ := by
  induction l generalizing s with
  | nil => simp
  | cons b l ih =>
    rw [List.map_cons, List.foldl_cons, ih]
    have e : (s.push (UInt8.ofNat ((b.toNat : Int)).toNat)).data = s.data.push b := by simp [ByteArray.push]
    rw [e]
    simp
/-- string(b), b a slice of bytes that the call owns. -/
theorem run_string_of {w : World} {base : Nat} {v : Value} {xs : List UInt8} (h : Bytes base w v xs) (hx : 0 < xs.length) :
    (convert 63 9 v).run Tryd.prog w = .ok (.string ⟨xs.toArray⟩) w := by
  obtain ⟨g, cap, rfl, _⟩ := ownsRow_some h hx
  rw [run_convert_bytes_string w _ _ _ _ _ _ Tryd.underlying63 Tryd.underlying5 Tryd.underlying9]
  have hc := World.ownsRow.cells (g := g) h rfl
  have hl : (loadCells ⟨g, 0, none⟩ xs.length).run Tryd.prog w = .ok ((xs.map fun b => (b.toNat : Int)).map (Value.int .u8)).toArray w := by
    have := run_firstCells_some (P := Tryd.prog) w 1 xs.length ⟨g, 0, none⟩ xs.length cap (Pl.Bs xs) (by rw [Pl.Bs_length]; omega) hc
    simp only [Builtin.firstCells, Nat.mul_one] at this
    rw [List.map_map]
    simpa [Pl.Bs, Function.comp_def, show Pl.B = fun x => Value.int .u8 x.toNat from rfl] using this
  rw [run_bytesToString w ⟨g, 0, none⟩ xs.length cap (xs.map fun b => (b.toNat : Int)) hl, fold_push]
  simp

/-- A number of 32 bits, the low byte first; the high byte first. -/
def le32 (n : Nat) : List UInt8 := [UInt8.ofNat (n % 256), UInt8.ofNat (n / 256 % 256), UInt8.ofNat (n / 65536 % 256), UInt8.ofNat (n / 16777216 % 256)]
def be32 (n : Nat) : List UInt8 := [UInt8.ofNat (n / 16777216 % 256), UInt8.ofNat (n / 65536 % 256), UInt8.ofNat (n / 256 % 256), UInt8.ofNat (n % 256)]
theorem Bs_le32 (n : Nat) : Pl.Bs (le32 n) = [.int .u8 ((n % 256 : Nat) : Int), .int .u8 ((n / 256 % 256 : Nat) : Int), .int .u8 ((n / 65536 % 256 : Nat) : Int), .int .u8 ((n / 16777216 % 256 : Nat) : Int)] := by
  simp only [le32, Pl.Bs, List.map_cons, List.map_nil, Pl.B]
  rw [Pl.u8_ofNat _ (by omega), Pl.u8_ofNat _ (by omega), Pl.u8_ofNat _ (by omega), Pl.u8_ofNat _ (by omega)]
theorem Bs_be32 (n : Nat) : Pl.Bs (be32 n) = [.int .u8 ((n / 16777216 % 256 : Nat) : Int), .int .u8 ((n / 65536 % 256 : Nat) : Int), .int .u8 ((n / 256 % 256 : Nat) : Int), .int .u8 ((n % 256 : Nat) : Int)] := by
  simp only [be32, Pl.Bs, List.map_cons, List.map_nil, Pl.B]
  rw [Pl.u8_ofNat _ (by omega), Pl.u8_ofNat _ (by omega), Pl.u8_ofNat _ (by omega), Pl.u8_ofNat _ (by omega)]

theorem Bs_le (n : Nat) (h : n ≤ 4294967295) : Pl.Bs (le32 n) = [.int .u8 ((n : Int) % 256), .int .u8 ((n : Int) / 256 % 256), .int .u8 ((n : Int) / 65536 % 256), .int .u8 ((n : Int) / 16777216)] := by
  rw [Bs_le32]
  have e1 : ((n % 256 : Nat) : Int) = (n : Int) % 256 := by omega
  have e2 : ((n / 256 % 256 : Nat) : Int) = (n : Int) / 256 % 256 := by omega
  have e3 : ((n / 65536 % 256 : Nat) : Int) = (n : Int) / 65536 % 256 := by omega
  have e4 : ((n / 16777216 % 256 : Nat) : Int) = (n : Int) / 16777216 := by omega
  rw [e1, e2, e3, e4]

set_option maxHeartbeats 400000 in
theorem sumBytes_any (s : ByteArray) (w : World) (hs : s.size ≤ maxLen) :
    Calls Tryd.prog 32 #[.string s] w fun e w' => ∃ v, e = .returned v ∧ Bytes w.heap.size w' v (le32 (Pl.crc s.data.toList)) ∧ Below w.heap.size w w' := by
  have hlt := Pl.crc_lt s.data.toList
  have C := hide (sum_any s w hs)
  generalize Pl.crc s.data.toList = n at *
  go_enter Tryd.func32, Tryd.ntmps32
  go_wp2_with fail
  refine C.out.mono ?_
  rintro e w' ⟨rfl, rfl⟩
  have hlt2 : n ≤ 4294967295 := by omega
  clear hlt C
  go_wp2
  go_ret
  refine ⟨_, rfl, ?_, (Below.refl _ _).alloc (Nat.le_refl _) _⟩
  have h := World.ownsRow_lit (base := w'.heap.size) (e := 5) (size := 1) w' #[.int .u8 ((n : Int) % 256), .int .u8 ((n : Int) / 256 % 256), .int .u8 ((n : Int) / 65536 % 256), .int .u8 ((n : Int) / 16777216)] 4 (Nat.le_refl _) (by decide) rfl
  unfold Bytes
  rw [Bs_le n hlt2]
  exact h

theorem row_add {W : World} {g : Nat} {C : List Value} (h : ∀ j, W.cell? ⟨g, j, none⟩ = C[j]?) : ∀ j v, C[j]? = some v → W.cell? ((⟨g, 0, none⟩ : Addr).add j) = some v := by
  intro j v hv
  have hadd : (⟨g, 0, none⟩ : Addr).add j = ⟨g, j, none⟩ := by unfold Addr.add; split <;> simp_all
  rw [hadd, h j]; exact hv
theorem Bs_be (n : Nat) (h : n ≤ 65535) : Pl.Bs (be32 n) = [.int .u8 ((n : Int) / 16777216), .int .u8 ((n : Int) / 65536), .int .u8 ((n : Int) / 256), .int .u8 ((n : Int) % 256)] := by
  rw [Bs_be32]
  have e1 : ((n % 256 : Nat) : Int) = (n : Int) % 256 := by omega
  have e2 : ((n / 256 % 256 : Nat) : Int) = (n : Int) / 256 := by omega
  have e3 : ((n / 65536 % 256 : Nat) : Int) = (n : Int) / 65536 := by omega
  have e4 : ((n / 16777216 % 256 : Nat) : Int) = (n : Int) / 16777216 := by omega
  rw [e1, e2, e3, e4]
/-- The frame of a payload. -/
def headOf (p : List UInt8) : List UInt8 := [67, 72, 1] ++ be32 p.length ++ p
def frameOf (p : List UInt8) : List UInt8 := headOf p ++ le32 (Pl.crc (headOf p))

section
variable {P : Program} (w : World)
/-- append onto a slice that has no room: a new row. -/
theorem wpList_append_full {ops : Array Oper} {rest : List Oper} {o : Oper} {a : Act} {Q : Exit → Act → World → Prop} (hgd : o.guard = none) (s x : Operand) (t : TypeId)
    (ho : o.op = .call { callee := .builtin .append, args := #[s, x], argTypes := #[t, t] })
    (e : TypeId) (i : TypeInfo) (z : Value) (bytes : Nat) (ht : P.underlying t = some (.slice e)) (hi : P.info? e = some i) (hz : i.zero = some z)
    (hsize : i.size = 1) (hby : i.bytes = bytes) (hzs : z.cells.size = 1)
    (b : Addr) (n : Nat) (olds : List Value) (hs : a.eval s = .slice (some b) n n) (hlo : olds.length = n) (holds : ∀ j v, olds[j]? = some v → w.cell? (b.add j) = some v)
    (ad : Addr) (m c : Nat) (news : List Value) (hx : a.eval x = .slice (some ad) m c) (hl : news.length = m) (hnews : ∀ j u, news[j]? = some u → w.cell? (ad.add j) = some u) (hm : 0 < m)
    (h63 : n + m ≤ maxLen) (hbytes : (n + m) * bytes ≤ 140737488355328)
    (h : ∀ v' w', w'.ownsRow w.heap.size e 1 v' (n + m) (olds ++ news) → Below w.heap.size w w' → wpList P ops Q rest (a.put o.dst v') w') : wpList P ops Q (o :: rest) a w := by
  refine wpList_plain hgd fun K hK => ?_
  have hsmall : n + m ≤ 9223372036854775807 := by simp only [maxLen] at h63; omega
  have hr := run_append_grow (P := P) w t o.type e i z ht hi hz b n n olds (by rw [hsize]; omega) holds ad m c news (by rw [hsize]; omega) hnews (by omega) (by omega) (growslice_fits (by omega) (by rw [hby]; exact hbytes))
  unfold Oper.wp execOp
  simp only [ho, resolve, invoke, builtin, Sem.run_bind, Sem.run_pure, Result.andThen_ok, List.map_toArray, List.map_cons, List.map_nil, hs, hx, hr]
  have hge := grownCap_ge w (n + m) n e
  have hcm : grownCap w (n + m) n e ≤ maxLen := grownCap_le_maxLen w (n + m) n e h63
  refine hK _ _ (h _ _ ⟨by simp; omega, .inr ⟨w.heap.size, _, _, rfl, Nat.le_refl _, _root_.Go.heap_alloc_new w.drew _, hge, hcm, ?_, ?_⟩⟩ (((Below.refl _ _).drew).alloc (Nat.le_refl _) _))
  · simp only [Array.size_append, List.size_toArray, size_zeroCells, hzs, hlo, hl]; omega
  · simp only [Array.toList_append, List.append_assoc]
    rw [← List.append_assoc, show (n + m) * 1 = (olds ++ news).length by simp; omega]
    exact List.take_left
end

set_option maxRecDepth 100000 in
set_option maxHeartbeats 400000 in
theorem Pack_any (B : Nat) (v : Value) (bs : List Ser) (w : World) (hb : BatchAt w B v bs) (hB : B ≤ w.heap.size) (hT : Tabs w) (hF : Fits bs) (hpl : (payload bs).length ≤ 60000) (hpp : 0 < (payload bs).length) :
    Calls Tryd.prog 22 #[v] w fun e w' => e = .returned (.string ⟨(frameOf (payload bs)).toArray⟩) ∧ Below w.heap.size w w' := by
  obtain ⟨i0, hi, hz0, hz1, hz2⟩ := info_parts Tryd.infoU8
  have C := hide (packPayload_any B v bs w hb hB hT hF)
  have kc := fun (w : World) (C : Array Value) (n c : Nat) => Lib.run_convert_bytes_const (P := Tryd.prog) w 63 5 C n c Tryd.underlying63 Tryd.underlying5
  generalize payload bs = p at *
  clear hb hT hF
  go_enter Tryd.func22, Tryd.ntmps22
  go_wp2_with fail
  refine C.out.mono ?_
  rintro e w1 ⟨pv, rfl, hp, hb1⟩
  have hpn : ∃ pa pc, pv = .slice pa p.length pc := by
    rcases hp.2 with ⟨h1, h2⟩ | ⟨g, cap, cur, h1, _⟩
    · exact ⟨_, _, by rw [h1, ← h2]⟩
    · exact ⟨_, _, h1⟩
  obtain ⟨pa, pc, hpv⟩ := hpn
  rw [hpv] at hp ⊢
  have HP := hide hp
  have HB1 := hide hb1
  clear hp hb1 hpv C
  have hp0 : 0 ≤ p.length := Nat.zero_le _
  go_wp2_with (first | (at_builtin; refine wpList_append_full _ rfl (.tmp 11) (.tmp 23) 63 rfl 5 i0 (.int .u8 0) 1 Tryd.underlying63 hi hz0 hz1 hz2 rfl ⟨w1.heap.size, 0, none⟩ 3 [.int .u8 67, .int .u8 72, .int .u8 1] rfl rfl ?d1 ⟨w1.heap.size + 1, 0, none⟩ 4 4 [.int .u8 ((p.length : Int) / 16777216), .int .u8 ((p.length : Int) / 65536), .int .u8 ((p.length : Int) / 256), .int .u8 ((p.length : Int) % 256)] rfl rfl ?d2 (by decide) (by decide) (by decide) ?_))
  case d1 =>
    refine row_add fun j => ?_
    rw [World.cell?_alloc_lt _ _ _ (by simp), World.cell?_alloc_mark]; simp
  case d2 =>
    refine row_add fun j => ?_
    have h := World.cell?_alloc_new (w1.alloc (.cells #[.int .u8 67, .int .u8 72, .int .u8 1] 5 (3, 4))) #[.int .u8 ((p.length : Int) / 16777216), .int .u8 ((p.length : Int) / 65536), .int .u8 ((p.length : Int) / 256), .int .u8 ((p.length : Int) % 256)] 5 j
    simp only [World.size_alloc] at h
    rw [h]; simp
  intro v2 w2 hown2 hb2
  have B2 : Bytes (w1.heap.size + 1 + 1) w2 v2 ([67, 72, 1] ++ be32 p.length) := by
    refine bytes_app (n := 7) ?_
    rw [Bs_be p.length (by omega)]; exact hown2
  have hb2' : Below w1.heap.size w1 w2 := (((Below.refl w1.heap.size w1).alloc (Nat.le_refl _) _).alloc (by simp) _).trans (hb2.mono (by omega))
  have hpos : 0 < p.length := hpp
  obtain ⟨g, pc', hpv, hg⟩ := ownsRow_some HP.out hpos
  cases hpv
  have hgl : g < w1.heap.size := (World.ownsRow.lt HP.out g rfl).2
  have hcp : ∀ j u, (Pl.Bs p)[j]? = some u → w2.cell? ((⟨g, 0, none⟩ : Addr).add j) = some u := World.ownsRow.cells (g := g) (HP.out.kept (w' := w2) fun q e => by
    obtain rfl : g = q := by simpa [Value.ownBlock] using e
    exact hb2'.block g hgl) rfl
  have HC := hide hcp
  have HB2 := hide (HB1.out.trans (hb2'.mono HB1.out.size))
  have HBy := hide B2
  have hsz2 : w1.heap.size + 1 + 1 ≤ w2.heap.size := by have := hb2.size; simp at this; omega
  have hs1 := HB1.out.size
  have hhl : ([67, 72, 1] ++ be32 p.length).length = 7 := rfl
  clear hown2 hb2 B2 hb2' hcp HP HB1
  go_wp2_with (first | (at_builtin; refine wpList_append_heir _ rfl (.tmp 25) (.tmp 26) 63 rfl (w1.heap.size + 1 + 1) 5 i0 (.int .u8 0) 1 1 Tryd.underlying63 hi hz0 hz1 hz2 rfl (by decide) _ _ _ rfl HBy.out ⟨g, 0, none⟩ p.length pc (Pl.Bs p) rfl ?c0 ?c1 ?c2 ?c3 ?c4 hsz2 ?_))
  case c0 => rw [Pl.Bs_length, Nat.mul_one]
  case c1 => exact HC.out
  case c2 => exact oneBs _
  case c3 => unfold maxLen; rw [hhl]; omega
  case c4 => rw [hhl]; omega
  intro v3 w3 hown3 hgrow3 hheir3
  have B3 : Bytes (w1.heap.size + 1 + 1) w3 v3 (headOf p) := bytes_app hown3
  have hb3 : Below w.heap.size w w3 := HB2.out.trans ((Below.refl _ _).grown hgrow3 (by omega) (fun k e => by have := (World.ownsRow.lt HBy.out k e).1; omega))
  have hhd : (headOf p).length ≤ 60007 := by unfold headOf; rw [List.length_append, hhl]; omega
  have hcv := run_string_of B3 (by unfold headOf; simp)
  have CS := hide (sumBytes_any ⟨(headOf p).toArray⟩ w3 (by show (headOf p).toArray.size ≤ _; simp; unfold maxLen; omega))
  have HB3 := hide hb3
  have HY3 := hide B3
  have hsz3 : w1.heap.size + 1 + 1 ≤ w3.heap.size := by have := hgrow3.size; omega
  clear hown3 hgrow3 hheir3 B3 hb3 HC HBy HB2
  go_wp2_with fail
  refine CS.out.mono ?_
  rintro e w4 ⟨sv, rfl, hsb, hb4⟩
  obtain ⟨g4, c4, hsv, hg4⟩ := ownsRow_some hsb (by simp [le32])
  rw [hsv] at hsb ⊢
  have hB4 : Bytes (w1.heap.size + 1 + 1) w4 v3 (headOf p) := HY3.out.kept fun k e => hb4.block k (World.ownsRow.lt HY3.out k e).2
  have hcs : ∀ j u, (Pl.Bs (le32 (Pl.crc (headOf p))))[j]? = some u → w4.cell? ((⟨g4, 0, none⟩ : Addr).add j) = some u := World.ownsRow.cells (g := g4) hsb rfl
  have HC4 := hide hcs
  have HY4 := hide hB4
  have HB4 := hide (HB3.out.trans (hb4.mono HB3.out.size))
  have hsz4 : w1.heap.size + 1 + 1 ≤ w4.heap.size := by have := hb4.size; omega
  have h4l : (le32 (Pl.crc (headOf p))).length = 4 := rfl
  clear hB4 hcs hsb hb4 hsv CS HY3 HB3 hcv
  go_wp2_with (first | (at_builtin; refine wpList_append_heir _ rfl (.tmp 28) (.tmp 31) 63 rfl (w1.heap.size + 1 + 1) 5 i0 (.int .u8 0) 1 1 Tryd.underlying63 hi hz0 hz1 hz2 rfl (by decide) _ _ _ rfl HY4.out ⟨g4, 0, none⟩ 4 c4 (Pl.Bs (le32 (Pl.crc (headOf p)))) rfl rfl ?c1 ?c2 ?c3 ?c4 hsz4 ?_))
  case c1 => exact HC4.out
  case c2 => exact oneBs _
  case c3 => unfold maxLen; omega
  case c4 => omega
  intro v5 w5 hown5 hgrow5 hheir5
  have B5 : Bytes (w1.heap.size + 1 + 1) w5 v5 (frameOf p) := bytes_app hown5
  have hcv := run_string_of B5 (by unfold frameOf headOf; simp)
  have HB5 := hide (HB4.out.trans ((Below.refl _ _).grown hgrow5 (by omega) (fun k e => by have := (World.ownsRow.lt HY4.out k e).1; omega)))
  clear hown5 hgrow5 hheir5 B5 HC4 HY4 HB4
  go_wp2
  go_ret
  exact ⟨rfl, HB5.out⟩
end Go.Proofs.YtcidgfdiacehmaaDoor

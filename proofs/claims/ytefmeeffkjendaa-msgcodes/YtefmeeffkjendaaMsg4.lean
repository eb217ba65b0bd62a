/- msg: Decode, walked. Own lemmas, no statement. -/
import Derived.Test.YtefmeeffkjendaaMsg3
set_option linter.unusedSimpArgs false
set_option linter.unusedVariables false
namespace Go.Proofs.Ytefmeeffkjendaa
open Go.ChangeShapes Go.WideShapes Go.ChangeAt Go.RowKit

theorem ext_trans {w a b : World} (h : Below w.heap.size w a) (k : Below a.heap.size a b) : Below w.heap.size w b := h.trans (k.mono h.size)
theorem rlife_pos (k : Int) (l : List UInt8) (e : Nat) : 0 ≤ (rlife k l e).1 := by
  unfold rlife
  split
  · exact Int.natCast_nonneg _
  · exact Int.le_refl _
theorem rmsg_pos (l : List UInt8) (e : Nat) : 0 ≤ (rmsg l e).1.num ∧ 0 ≤ (rmsg l e).1.life :=
  ⟨Int.natCast_nonneg _, rlife_pos _ _ _⟩
theorem rdo_sizes (k : Int) (l : List UInt8) (e : Nat) : (rdo k l e).1.2.1.size ≤ 48 ∧ (rdo k l e).1.2.2.size ≤ 48 := by
  unfold rdo
  split
  · exact ⟨Nat.le_trans (rtext_len _ _ 24) (by omega), rtext_len _ _ 48⟩
  · exact ⟨Nat.zero_le _, Nat.zero_le _⟩
theorem rdid_size (k : Int) (v : ByteArray) (hv : v.size ≤ 48) (l : List UInt8) (e : Nat) : (rdid k v l e).1.2.size ≤ 48 := by
  unfold rdid
  split
  · exact rtext_len _ _ 48
  · exact hv
theorem rmsg_sizes (l : List UInt8) (e : Nat) : (rmsg l e).1.key.size ≤ 9223372036854775807 ∧ (rmsg l e).1.val.size ≤ 9223372036854775807 :=
  ⟨Nat.le_trans (rdo_sizes _ _ _).1 (by omega), Nat.le_trans (rdid_size _ _ (rdo_sizes _ _ _).2 _ _) (by omega)⟩
theorem RightM.wf {m : MsgQ} (h : RightM m) (h0 : 0 ≤ m.num) (h1 : 0 ≤ m.life) : m.Wf := by
  have a1 := h.kind
  have a2 := h.frm
  have a3 := h.dst
  have a4 := h.node
  have a5 := h.num
  have a6 := h.life
  have a7 := h.n
  have a8 := h.deed3
  have a9 := h.deed
  have a10 := h.val
  have a11 := h.code
  have hv : m.val.size ≤ 48 := by rcases a10 with e | e <;> omega
  have ho : (0 ≤ m.op ∧ m.op ≤ 3) ∧ m.key.size ≤ 24 := by
    by_cases k : m.kind = 3
    · have := a8 k; omega
    · have := a9 k; omega
  exact ⟨by omega, by omega, by omega, by omega, by omega, by omega, by omega, by omega, by omega, by omega, by omega⟩
/-- What Decode hands back. -/
def DecM (l : List UInt8) (w : World) (e : Ending) (w' : World) : Prop :=
  ((∃ x : MsgQ, e = .returned (.tuple #[.agg #[.int .i64 x.kind, .int .i64 x.frm, .int .i64 x.dst, .int .u64 x.num, .int .i64 x.node, .int .u64 x.life, .int .i64 x.n, .int .i64 x.op, .string x.key, .string x.val, .bool x.has, .int .i64 x.code], .int .i64 0]) ∧ RightM x ∧ x.Wf ∧ msgB x = l) ∨ (e = .returned (.tuple #[.agg #[.int .i64 0, .int .i64 0, .int .i64 0, .int .u64 0, .int .i64 0, .int .u64 0, .int .i64 0, .int .i64 0, .string ⟨#[]⟩, .string ⟨#[]⟩, .bool false, .int .i64 0], .int .i64 11]) ∧ ∀ m, RightM m → 0 ≤ m.num → 0 ≤ m.life → msgB m ≠ l)) ∧ Below w.heap.size w w'
set_option maxRecDepth 100000 in
set_option maxHeartbeats 8000000 in
theorem decodeM_any (ao : Option Addr) (n c : Nat) (l : List UInt8) (w : World) (hs : Src w (.slice ao n c) l) (hl : l.length < 900000000000) : Calls Try.prog 11 #[.slice ao n c] w (DecM l w) := by
  have HP : Hid (∀ e w', (((∃ x : MsgQ, e = .returned (.tuple #[.agg #[.int .i64 x.kind, .int .i64 x.frm, .int .i64 x.dst, .int .u64 x.num, .int .i64 x.node, .int .u64 x.life, .int .i64 x.n, .int .i64 x.op, .string x.key, .string x.val, .bool x.has, .int .i64 x.code], .int .i64 0]) ∧ RightM x ∧ x.Wf ∧ msgB x = l) ∨ (e = .returned (.tuple #[.agg #[.int .i64 0, .int .i64 0, .int .i64 0, .int .u64 0, .int .i64 0, .int .u64 0, .int .i64 0, .int .i64 0, .string ⟨#[]⟩, .string ⟨#[]⟩, .bool false, .int .i64 0], .int .i64 11]) ∧ ∀ m, RightM m → 0 ≤ m.num → 0 ≤ m.life → msgB m ≠ l)) ∧ Below w.heap.size w w') → DecM l w e w') := fun e w' h => h
  obtain ⟨W0, hW0⟩ : ∃ W0, W0 = w.alloc (.cells #[.int .i64 0, .int .i64 0, .int .i64 0, .int .u64 0, .int .i64 0, .int .u64 0, .int .i64 0, .int .i64 0, .string ⟨#[]⟩, .string ⟨#[]⟩, .bool false, .int .i64 0] 27) := ⟨_, rfl⟩
  have HE0 : Hid (Below w.heap.size w W0) := by rw [hW0]; exact (Below.refl _ _).alloc (Nat.le_refl _) _
  have HB0 : Hid (Blk W0 w.heap.size #[.int .i64 0, .int .i64 0, .int .i64 0, .int .u64 0, .int .i64 0, .int .u64 0, .int .i64 0, .int .i64 0, .string ⟨#[]⟩, .string ⟨#[]⟩, .bool false, .int .i64 0] 27) := by rw [hW0]; exact Blk.new _ _ _
  have HSZ : Hid (W0.heap.size = w.heap.size + 1) := by show _ = _; rw [hW0]; simp
  have HRD : Hid (Calls _ _ _ _ _) := read_any ao n c l W0 (hs.below HE0.out) hl
  have HPOS : Hid (0 ≤ (rmsg l 0).1.num ∧ 0 ≤ (rmsg l 0).1.life) := rmsg_pos l 0
  have HRED : Hid (∀ m, RightM m → 0 ≤ m.num → 0 ≤ m.life → msgB m = l → rmsg l 0 = (m, [], 0)) := fun m h h0 h1 e => by
    have := msg_read h h0 h1 []
    rw [List.append_nil, e] at this
    exact this
  have HKK : Hid ((rmsg l 0).1.key.size ≤ 9223372036854775807 ∧ (rmsg l 0).1.val.size ≤ 9223372036854775807) := rmsg_sizes l 0
  have HINV : Hid ((rmsg l 0).2.2 = 0 → l = msgB (rmsg l 0).1 ++ (rmsg l 0).2.1) := fun h => (msg_inv l 0 h).2
  clear hs hl
  go_enter Try.func11, Try.ntmps11
  go_upto_region 1 with fail
  rw [← hW0]
  clear hW0
  go_wp2_with fail
  refine HRD.out.mono ?_
  rintro e w1 ⟨g, b, rfl, hr1, hb1, hg1, hrb1⟩
  have HR1 : Hid (Rdr w1 g b l 0) := hr1
  have HY1 : Hid (Below W0.heap.size W0 w1) := hb1
  have HG : Hid (W0.heap.size ≤ g ∧ W0.heap.size ≤ b) := ⟨hg1, hrb1⟩
  clear hr1 hb1 hg1 hrb1 HRD
  obtain ⟨v1, l1, e1, hq, hv1, hx⟩ := rintR 10 g b l 0 w1 HR1.out
  have HQ1 : Hid (rint 10 l 0 = (v1, l1, e1)) := hq
  have HX : Hid (Calls _ _ _ _ _) := hx
  have HV1 : Hid (0 ≤ v1 ∧ v1 ≤ 10) := hv1
  have hw1 : IntKind.i64.wrap v1 = v1 := by rw [IntKind.wrap_i64]; omega
  clear hq hx hv1
  go_wp2_with fail
  refine HX.out.mono ?_
  rintro e w2 ⟨rfl, h1, h2⟩
  have HR2 : Hid (Rdr w2 g b l1 e1) := h1
  have HY2 : Hid (Below W0.heap.size W0 w2) := HY1.out.grown h2 HY1.out.size (fun k hk => by cases hk; exact HG.out.1)
  clear h1 h2 HX HR1 HY1
  obtain ⟨v2, l2, e2, hq, hv2, hx⟩ := rnodeR g b l1 e1 w2 HR2.out
  have HQ2 : Hid (rint 63 l1 e1 = (v2, l2, e2)) := hq
  have HX : Hid (Calls _ _ _ _ _) := hx
  have HV2 : Hid (0 ≤ v2 ∧ v2 ≤ 63) := hv2
  clear hq hx hv2
  go_wp2_with fail
  refine HX.out.mono ?_
  rintro e w3 ⟨rfl, h1, h2⟩
  have HR3 : Hid (Rdr w3 g b l2 e2) := h1
  have HY3 : Hid (Below W0.heap.size W0 w3) := HY2.out.grown h2 HY2.out.size (fun k hk => by cases hk; exact HG.out.1)
  clear h1 h2 HX HR2 HY2
  obtain ⟨v3, l3, e3, hq, hv3, hx⟩ := rnodeR g b l2 e2 w3 HR3.out
  have HQ3 : Hid (rint 63 l2 e2 = (v3, l3, e3)) := hq
  have HX : Hid (Calls _ _ _ _ _) := hx
  have HV3 : Hid (0 ≤ v3 ∧ v3 ≤ 63) := hv3
  clear hq hx hv3
  go_wp2_with fail
  refine HX.out.mono ?_
  rintro e w4 ⟨rfl, h1, h2⟩
  have HR4 : Hid (Rdr w4 g b l3 e3) := h1
  have HY4 : Hid (Below W0.heap.size W0 w4) := HY3.out.grown h2 HY3.out.size (fun k hk => by cases hk; exact HG.out.1)
  clear h1 h2 HX HR3 HY3
  obtain ⟨tx, ty, l4, e4, hq, hv4, hy, hx⟩ := rtidR g b l3 e3 w4 HR4.out
  have HQ4 : Hid (rtidI l3 e3 = ((tx, ty), l4, e4)) := hq
  have HX : Hid (Calls _ _ _ _ _) := hx
  clear hq hx hv4 hy
  go_wp2_with fail
  refine HX.out.mono ?_
  rintro e w5 ⟨rfl, h1, h2⟩
  have HR5 : Hid (Rdr w5 g b l4 e4) := h1
  have HY5 : Hid (Below W0.heap.size W0 w5) := HY4.out.grown h2 HY4.out.size (fun k hk => by cases hk; exact HG.out.1)
  clear h1 h2 HX HR4 HY4
  obtain ⟨w6, hw6⟩ : ∃ x, x = w5.alloc (.cells #[.int .i64 v1, .int .i64 v2, .int .i64 v3, .int .u64 tx, .int .i64 ty, .int .u64 0, .int .i64 0, .int .i64 0, .string ⟨#[]⟩, .string ⟨#[]⟩, .bool false, .int .i64 0] 27) := ⟨_, rfl⟩
  have HB6 : Hid (Blk w6 w5.heap.size #[.int .i64 v1, .int .i64 v2, .int .i64 v3, .int .u64 tx, .int .i64 ty, .int .u64 0, .int .i64 0, .int .i64 0, .string ⟨#[]⟩, .string ⟨#[]⟩, .bool false, .int .i64 0] 27) := by rw [hw6]; exact Blk.new _ _ _
  have HR6 : Hid (Rdr w6 g b l4 e4) := by rw [hw6]; exact HR5.out.below ((Below.refl _ _).alloc (Nat.le_refl _) _)
  have HY6 : Hid (Below W0.heap.size W0 w6) := by rw [hw6]; exact HY5.out.alloc HY5.out.size _
  have HNE : Hid (w5.heap.size ≠ g ∧ w5.heap.size ≠ b ∧ W0.heap.size ≤ w5.heap.size) := by
    have h1 := HR5.out.lt
    have h2 := HR5.out.2.1
    exact ⟨by omega, by omega, HY5.out.size⟩
  go_upto_region 3 with fail
  rw [← hw6]
  clear hw6 HR5 HY5
  generalize w5.heap.size = p at *
  have HQ : Hid (rmsg l 0 = rbody v1 v2 v3 (tx, ty) l4 e4) := by
    show _ = _
    simp only [rmsg, rb, HQ1.out, HQ2.out, HQ3.out, HQ4.out]
  have HX : Hid (Calls _ _ _ _ _) := readM_any p g b l4 e4 v1 v2 v3 tx ty w6 HR6.out HB6.out HNE.out.1 HNE.out.2.1
  rw [← HQ.out] at HX
  generalize rmsg l 0 = R at *
  obtain ⟨x, rest, er⟩ := R
  simp only at HPOS HINV HX HKK
  go_wp2_with fail
  refine HX.out.mono ?_
  rintro e w7 ⟨rfl, hb, hr, ht⟩
  have HB7 : Hid (Blk w7 p #[.int .i64 x.kind, .int .i64 x.frm, .int .i64 x.dst, .int .u64 x.num, .int .i64 x.node, .int .u64 x.life, .int .i64 x.n, .int .i64 x.op, .string x.key, .string x.val, .bool x.has, .int .i64 x.code] 27) := hb
  have HR7 : Hid (Rdr w7 g b rest er) := hr
  have HY7 : Hid (Below W0.heap.size W0 w7) := HY6.out.trans ((Chg.below ht (B := W0.heap.size) HY6.out.size (fun i hi => by rcases hi with e | e <;> subst e; exact HG.out.1; exact HNE.out.2.2)))
  clear hb hr ht HX HB6 HR6 HY6 HQ HQ1 HQ2 HQ3 HQ4
  have HX : Hid (Calls _ _ _ _ _) := end_any g b rest er w7 HR7.out
  go_wp2_with fail
  refine HX.out.mono ?_
  rintro e w8 ⟨rfl, hw8⟩
  subst hw8
  clear HX HR7
  by_cases her : er = 0
  · subst her
    by_cases hre : rest = []
    · subst hre
      rw [if_neg (by omega), if_pos rfl]
      have z0 : w8.cell? ⟨p, 0, none⟩ = some (.int .i64 x.kind) := HB7.out.cell 0
      have z1 : w8.cell? ⟨p, 1, none⟩ = some (.int .i64 x.frm) := HB7.out.cell 1
      have z2 : w8.cell? ⟨p, 2, none⟩ = some (.int .i64 x.dst) := HB7.out.cell 2
      have z3 : w8.cell? ⟨p, 3, none⟩ = some (.int .u64 x.num) := HB7.out.cell 3
      have z4 : w8.cell? ⟨p, 4, none⟩ = some (.int .i64 x.node) := HB7.out.cell 4
      have z5 : w8.cell? ⟨p, 5, none⟩ = some (.int .u64 x.life) := HB7.out.cell 5
      have z6 : w8.cell? ⟨p, 6, none⟩ = some (.int .i64 x.n) := HB7.out.cell 6
      have z7 : w8.cell? ⟨p, 7, none⟩ = some (.int .i64 x.op) := HB7.out.cell 7
      have z8 : w8.cell? ⟨p, 8, none⟩ = some (.string x.key) := HB7.out.cell 8
      have z9 : w8.cell? ⟨p, 9, none⟩ = some (.string x.val) := HB7.out.cell 9
      have z10 : w8.cell? ⟨p, 10, none⟩ = some (.bool x.has) := HB7.out.cell 10
      have z11 : w8.cell? ⟨p, 11, none⟩ = some (.int .i64 x.code) := HB7.out.cell 11
      have HKV : Hid (x.key.size ≤ 9223372036854775807 ∧ x.val.size ≤ 9223372036854775807) := HKK.out
      go_wp2_with fail
      refine (right15_any x _ HKV.out.1 HKV.out.2).mono ?_
      rintro e w9 ⟨rfl, y⟩
      have HB9 : Hid (Blk w9 p #[.int .i64 x.kind, .int .i64 x.frm, .int .i64 x.dst, .int .u64 x.num, .int .i64 x.node, .int .u64 x.life, .int .i64 x.n, .int .i64 x.op, .string x.key, .string x.val, .bool x.has, .int .i64 x.code] 27) := Blk.of HB7.out (y.block _ HB7.out.lt)
      have HY9 : Hid (Below W0.heap.size W0 w9) := HY7.out.trans (Below.mono y HY7.out.size)
      clear y z0 z1 z2 z3 z4 z5 z6 z7 z8 z9 z10 z11 HB7 HY7
      have HZ : Hid (Blk w9 w.heap.size #[.int .i64 0, .int .i64 0, .int .i64 0, .int .u64 0, .int .i64 0, .int .u64 0, .int .i64 0, .int .i64 0, .string ⟨#[]⟩, .string ⟨#[]⟩, .bool false, .int .i64 0] 27) := Blk.of HB0.out (HY9.out.block _ (by have := HSZ.out; omega))
      have HYW : Hid (Below w.heap.size w w9) := ext_trans HE0.out HY9.out
      cases hb : rightM x with
      | true =>
        have HRT : Hid (RightM x) := (right_iff x).1 hb
        have HL : Hid (msgB x = l) := by have h := HINV.out (by trivial); rw [List.append_nil] at h; exact h.symm
        clear hb
        have z0 : w9.cell? ⟨p, 0, none⟩ = some (.int .i64 x.kind) := HB9.out.cell 0
        have z1 : w9.cell? ⟨p, 1, none⟩ = some (.int .i64 x.frm) := HB9.out.cell 1
        have z2 : w9.cell? ⟨p, 2, none⟩ = some (.int .i64 x.dst) := HB9.out.cell 2
        have z3 : w9.cell? ⟨p, 3, none⟩ = some (.int .u64 x.num) := HB9.out.cell 3
        have z4 : w9.cell? ⟨p, 4, none⟩ = some (.int .i64 x.node) := HB9.out.cell 4
        have z5 : w9.cell? ⟨p, 5, none⟩ = some (.int .u64 x.life) := HB9.out.cell 5
        have z6 : w9.cell? ⟨p, 6, none⟩ = some (.int .i64 x.n) := HB9.out.cell 6
        have z7 : w9.cell? ⟨p, 7, none⟩ = some (.int .i64 x.op) := HB9.out.cell 7
        have z8 : w9.cell? ⟨p, 8, none⟩ = some (.string x.key) := HB9.out.cell 8
        have z9 : w9.cell? ⟨p, 9, none⟩ = some (.string x.val) := HB9.out.cell 9
        have z10 : w9.cell? ⟨p, 10, none⟩ = some (.bool x.has) := HB9.out.cell 10
        have z11 : w9.cell? ⟨p, 11, none⟩ = some (.int .i64 x.code) := HB9.out.cell 11
        have y0 := HZ.out.cell 0
        have f0 := HZ.out.frozen 0
        have y1 := HZ.out.cell 1
        have f1 := HZ.out.frozen 1
        have y2 := HZ.out.cell 2
        have f2 := HZ.out.frozen 2
        have y3 := HZ.out.cell 3
        have f3 := HZ.out.frozen 3
        have y4 := HZ.out.cell 4
        have f4 := HZ.out.frozen 4
        have y5 := HZ.out.cell 5
        have f5 := HZ.out.frozen 5
        have y6 := HZ.out.cell 6
        have f6 := HZ.out.frozen 6
        have y7 := HZ.out.cell 7
        have f7 := HZ.out.frozen 7
        have y8 := HZ.out.cell 8
        have f8 := HZ.out.frozen 8
        have y9 := HZ.out.cell 9
        have f9 := HZ.out.frozen 9
        have y10 := HZ.out.cell 10
        have f10 := HZ.out.frozen 10
        have y11 := HZ.out.cell 11
        have f11 := HZ.out.frozen 11
        go_wp2
        have K1 : Blk (putL w9 w.heap.size 0 [.int .i64 x.kind, .int .i64 x.frm, .int .i64 x.dst, .int .u64 x.num, .int .i64 x.node, .int .u64 x.life, .int .i64 x.n, .int .i64 x.op, .string x.key, .string x.val, .bool x.has, .int .i64 x.code]) w.heap.size #[.int .i64 x.kind, .int .i64 x.frm, .int .i64 x.dst, .int .u64 x.num, .int .i64 x.node, .int .u64 x.life, .int .i64 x.n, .int .i64 x.op, .string x.key, .string x.val, .bool x.has, .int .i64 x.code] 27 := putL_all [.int .i64 x.kind, .int .i64 x.frm, .int .i64 x.dst, .int .u64 x.num, .int .i64 x.node, .int .u64 x.life, .int .i64 x.n, .int .i64 x.op, .string x.key, .string x.val, .bool x.has, .int .i64 x.code] HZ.out rfl
        have K3 : Below w.heap.size w (putL w9 w.heap.size 0 [.int .i64 x.kind, .int .i64 x.frm, .int .i64 x.dst, .int .u64 x.num, .int .i64 x.node, .int .u64 x.life, .int .i64 x.n, .int .i64 x.op, .string x.key, .string x.val, .bool x.has, .int .i64 x.code]) := putL_below (Nat.le_refl _) [.int .i64 x.kind, .int .i64 x.frm, .int .i64 x.dst, .int .u64 x.num, .int .i64 x.node, .int .u64 x.life, .int .i64 x.n, .int .i64 x.op, .string x.key, .string x.val, .bool x.has, .int .i64 x.code] 0 w9 HYW.out
        have hgo : ∀ (Q : World → Prop), Q (putL w9 w.heap.size 0 [.int .i64 x.kind, .int .i64 x.frm, .int .i64 x.dst, .int .u64 x.num, .int .i64 x.node, .int .u64 x.life, .int .i64 x.n, .int .i64 x.op, .string x.key, .string x.val, .bool x.has, .int .i64 x.code]) → Q ((((((((((((w9.setCell ⟨w.heap.size, 0, none⟩ (.int .i64 x.kind)).setCell ⟨w.heap.size, 1, none⟩ (.int .i64 x.frm)).setCell ⟨w.heap.size, 2, none⟩ (.int .i64 x.dst)).setCell ⟨w.heap.size, 3, none⟩ (.int .u64 x.num)).setCell ⟨w.heap.size, 4, none⟩ (.int .i64 x.node)).setCell ⟨w.heap.size, 5, none⟩ (.int .u64 x.life)).setCell ⟨w.heap.size, 6, none⟩ (.int .i64 x.n)).setCell ⟨w.heap.size, 7, none⟩ (.int .i64 x.op)).setCell ⟨w.heap.size, 8, none⟩ (.string x.key)).setCell ⟨w.heap.size, 9, none⟩ (.string x.val)).setCell ⟨w.heap.size, 10, none⟩ (.bool x.has)).setCell ⟨w.heap.size, 11, none⟩ (.int .i64 x.code)) := fun _ h => h
        refine hgo _ ?_
        clear hgo y0 f0 y1 f1 y2 f2 y3 f3 y4 f4 y5 f5 y6 f6 y7 f7 y8 f8 y9 f9 y10 f10 y11 f11
        generalize (putL w9 w.heap.size 0 [.int .i64 x.kind, .int .i64 x.frm, .int .i64 x.dst, .int .u64 x.num, .int .i64 x.node, .int .u64 x.life, .int .i64 x.n, .int .i64 x.op, .string x.key, .string x.val, .bool x.has, .int .i64 x.code]) = W9 at *
        have z0 := K1.cell 0
        have z1 := K1.cell 1
        have z2 := K1.cell 2
        have z3 := K1.cell 3
        have z4 := K1.cell 4
        have z5 := K1.cell 5
        have z6 := K1.cell 6
        have z7 := K1.cell 7
        have z8 := K1.cell 8
        have z9 := K1.cell 9
        have z10 := K1.cell 10
        have z11 := K1.cell 11
        simp only [List.getElem?_toArray, List.getElem?_cons_zero, List.getElem?_cons_succ] at z0 z1 z2 z3 z4 z5 z6 z7 z8 z9 z10 z11
        exact bodyPost_ret (v := .tuple #[.agg #[.int .i64 x.kind, .int .i64 x.frm, .int .i64 x.dst, .int .u64 x.num, .int .i64 x.node, .int .u64 x.life, .int .i64 x.n, .int .i64 x.op, .string x.key, .string x.val, .bool x.has, .int .i64 x.code], .int .i64 0]) (by simp [results, Try.results11, go_sem, z0, z1, z2, z3, z4, z5, z6, z7, z8, z9, z10, z11]) rfl (HP.out _ _ ⟨.inl ⟨x, rfl, HRT.out, HRT.out.wf HPOS.out.1 HPOS.out.2, HL.out⟩, K3⟩)
      | false =>
        have HNO : Hid (∀ m, RightM m → 0 ≤ m.num → 0 ≤ m.life → msgB m ≠ l) := fun m h h0 h1 e => by
          have h2 := HRED.out m h h0 h1 e
          simp only [Prod.mk.injEq] at h2
          rw [h2.1] at hb
          rw [(right_iff m).2 h] at hb
          cases hb
        clear hb
        have y0 := HZ.out.cell 0
        have f0 := HZ.out.frozen 0
        have y1 := HZ.out.cell 1
        have f1 := HZ.out.frozen 1
        have y2 := HZ.out.cell 2
        have f2 := HZ.out.frozen 2
        have y3 := HZ.out.cell 3
        have f3 := HZ.out.frozen 3
        have y4 := HZ.out.cell 4
        have f4 := HZ.out.frozen 4
        have y5 := HZ.out.cell 5
        have f5 := HZ.out.frozen 5
        have y6 := HZ.out.cell 6
        have f6 := HZ.out.frozen 6
        have y7 := HZ.out.cell 7
        have f7 := HZ.out.frozen 7
        have y8 := HZ.out.cell 8
        have f8 := HZ.out.frozen 8
        have y9 := HZ.out.cell 9
        have f9 := HZ.out.frozen 9
        have y10 := HZ.out.cell 10
        have f10 := HZ.out.frozen 10
        have y11 := HZ.out.cell 11
        have f11 := HZ.out.frozen 11
        go_wp2
        have K1 : Blk (putL w9 w.heap.size 0 [.int .i64 0, .int .i64 0, .int .i64 0, .int .u64 0, .int .i64 0, .int .u64 0, .int .i64 0, .int .i64 0, .string ⟨#[]⟩, .string ⟨#[]⟩, .bool false, .int .i64 0]) w.heap.size #[.int .i64 0, .int .i64 0, .int .i64 0, .int .u64 0, .int .i64 0, .int .u64 0, .int .i64 0, .int .i64 0, .string ⟨#[]⟩, .string ⟨#[]⟩, .bool false, .int .i64 0] 27 := putL_all [.int .i64 0, .int .i64 0, .int .i64 0, .int .u64 0, .int .i64 0, .int .u64 0, .int .i64 0, .int .i64 0, .string ⟨#[]⟩, .string ⟨#[]⟩, .bool false, .int .i64 0] HZ.out rfl
        have K3 : Below w.heap.size w (putL w9 w.heap.size 0 [.int .i64 0, .int .i64 0, .int .i64 0, .int .u64 0, .int .i64 0, .int .u64 0, .int .i64 0, .int .i64 0, .string ⟨#[]⟩, .string ⟨#[]⟩, .bool false, .int .i64 0]) := putL_below (Nat.le_refl _) [.int .i64 0, .int .i64 0, .int .i64 0, .int .u64 0, .int .i64 0, .int .u64 0, .int .i64 0, .int .i64 0, .string ⟨#[]⟩, .string ⟨#[]⟩, .bool false, .int .i64 0] 0 w9 HYW.out
        have hgo : ∀ (Q : World → Prop), Q (putL w9 w.heap.size 0 [.int .i64 0, .int .i64 0, .int .i64 0, .int .u64 0, .int .i64 0, .int .u64 0, .int .i64 0, .int .i64 0, .string ⟨#[]⟩, .string ⟨#[]⟩, .bool false, .int .i64 0]) → Q ((((((((((((w9.setCell ⟨w.heap.size, 0, none⟩ (.int .i64 0)).setCell ⟨w.heap.size, 1, none⟩ (.int .i64 0)).setCell ⟨w.heap.size, 2, none⟩ (.int .i64 0)).setCell ⟨w.heap.size, 3, none⟩ (.int .u64 0)).setCell ⟨w.heap.size, 4, none⟩ (.int .i64 0)).setCell ⟨w.heap.size, 5, none⟩ (.int .u64 0)).setCell ⟨w.heap.size, 6, none⟩ (.int .i64 0)).setCell ⟨w.heap.size, 7, none⟩ (.int .i64 0)).setCell ⟨w.heap.size, 8, none⟩ (.string ⟨#[]⟩)).setCell ⟨w.heap.size, 9, none⟩ (.string ⟨#[]⟩)).setCell ⟨w.heap.size, 10, none⟩ (.bool false)).setCell ⟨w.heap.size, 11, none⟩ (.int .i64 0)) := fun _ h => h
        refine hgo _ ?_
        clear hgo y0 f0 y1 f1 y2 f2 y3 f3 y4 f4 y5 f5 y6 f6 y7 f7 y8 f8 y9 f9 y10 f10 y11 f11
        generalize (putL w9 w.heap.size 0 [.int .i64 0, .int .i64 0, .int .i64 0, .int .u64 0, .int .i64 0, .int .u64 0, .int .i64 0, .int .i64 0, .string ⟨#[]⟩, .string ⟨#[]⟩, .bool false, .int .i64 0]) = W9 at *
        have z0 := K1.cell 0
        have z1 := K1.cell 1
        have z2 := K1.cell 2
        have z3 := K1.cell 3
        have z4 := K1.cell 4
        have z5 := K1.cell 5
        have z6 := K1.cell 6
        have z7 := K1.cell 7
        have z8 := K1.cell 8
        have z9 := K1.cell 9
        have z10 := K1.cell 10
        have z11 := K1.cell 11
        simp only [List.getElem?_toArray, List.getElem?_cons_zero, List.getElem?_cons_succ] at z0 z1 z2 z3 z4 z5 z6 z7 z8 z9 z10 z11
        exact bodyPost_ret (v := .tuple #[.agg #[.int .i64 0, .int .i64 0, .int .i64 0, .int .u64 0, .int .i64 0, .int .u64 0, .int .i64 0, .int .i64 0, .string ⟨#[]⟩, .string ⟨#[]⟩, .bool false, .int .i64 0], .int .i64 11]) (by simp [results, Try.results11, go_sem, z0, z1, z2, z3, z4, z5, z6, z7, z8, z9, z10, z11]) rfl (HP.out _ _ ⟨.inr ⟨rfl, HNO.out⟩, K3⟩)
    · rw [if_neg (by omega), if_neg hre]
      have HNO : Hid (∀ m, RightM m → 0 ≤ m.num → 0 ≤ m.life → msgB m ≠ l) := fun m h h0 h1 e => by
        have h2 := HRED.out m h h0 h1 e
        simp only [Prod.mk.injEq] at h2
        exact hre h2.2.1
      clear hre
      have HZ : Hid (Blk w8 w.heap.size #[.int .i64 0, .int .i64 0, .int .i64 0, .int .u64 0, .int .i64 0, .int .u64 0, .int .i64 0, .int .i64 0, .string ⟨#[]⟩, .string ⟨#[]⟩, .bool false, .int .i64 0] 27) := Blk.of HB0.out (HY7.out.block _ (by have := HSZ.out; omega))
      have HYW : Hid (Below w.heap.size w w8) := ext_trans HE0.out HY7.out
      have y0 := HZ.out.cell 0
      have f0 := HZ.out.frozen 0
      have y1 := HZ.out.cell 1
      have f1 := HZ.out.frozen 1
      have y2 := HZ.out.cell 2
      have f2 := HZ.out.frozen 2
      have y3 := HZ.out.cell 3
      have f3 := HZ.out.frozen 3
      have y4 := HZ.out.cell 4
      have f4 := HZ.out.frozen 4
      have y5 := HZ.out.cell 5
      have f5 := HZ.out.frozen 5
      have y6 := HZ.out.cell 6
      have f6 := HZ.out.frozen 6
      have y7 := HZ.out.cell 7
      have f7 := HZ.out.frozen 7
      have y8 := HZ.out.cell 8
      have f8 := HZ.out.frozen 8
      have y9 := HZ.out.cell 9
      have f9 := HZ.out.frozen 9
      have y10 := HZ.out.cell 10
      have f10 := HZ.out.frozen 10
      have y11 := HZ.out.cell 11
      have f11 := HZ.out.frozen 11
      go_wp2
      have K1 : Blk (putL w8 w.heap.size 0 [.int .i64 0, .int .i64 0, .int .i64 0, .int .u64 0, .int .i64 0, .int .u64 0, .int .i64 0, .int .i64 0, .string ⟨#[]⟩, .string ⟨#[]⟩, .bool false, .int .i64 0]) w.heap.size #[.int .i64 0, .int .i64 0, .int .i64 0, .int .u64 0, .int .i64 0, .int .u64 0, .int .i64 0, .int .i64 0, .string ⟨#[]⟩, .string ⟨#[]⟩, .bool false, .int .i64 0] 27 := putL_all [.int .i64 0, .int .i64 0, .int .i64 0, .int .u64 0, .int .i64 0, .int .u64 0, .int .i64 0, .int .i64 0, .string ⟨#[]⟩, .string ⟨#[]⟩, .bool false, .int .i64 0] HZ.out rfl
      have K3 : Below w.heap.size w (putL w8 w.heap.size 0 [.int .i64 0, .int .i64 0, .int .i64 0, .int .u64 0, .int .i64 0, .int .u64 0, .int .i64 0, .int .i64 0, .string ⟨#[]⟩, .string ⟨#[]⟩, .bool false, .int .i64 0]) := putL_below (Nat.le_refl _) [.int .i64 0, .int .i64 0, .int .i64 0, .int .u64 0, .int .i64 0, .int .u64 0, .int .i64 0, .int .i64 0, .string ⟨#[]⟩, .string ⟨#[]⟩, .bool false, .int .i64 0] 0 w8 HYW.out
      have hgo : ∀ (Q : World → Prop), Q (putL w8 w.heap.size 0 [.int .i64 0, .int .i64 0, .int .i64 0, .int .u64 0, .int .i64 0, .int .u64 0, .int .i64 0, .int .i64 0, .string ⟨#[]⟩, .string ⟨#[]⟩, .bool false, .int .i64 0]) → Q ((((((((((((w8.setCell ⟨w.heap.size, 0, none⟩ (.int .i64 0)).setCell ⟨w.heap.size, 1, none⟩ (.int .i64 0)).setCell ⟨w.heap.size, 2, none⟩ (.int .i64 0)).setCell ⟨w.heap.size, 3, none⟩ (.int .u64 0)).setCell ⟨w.heap.size, 4, none⟩ (.int .i64 0)).setCell ⟨w.heap.size, 5, none⟩ (.int .u64 0)).setCell ⟨w.heap.size, 6, none⟩ (.int .i64 0)).setCell ⟨w.heap.size, 7, none⟩ (.int .i64 0)).setCell ⟨w.heap.size, 8, none⟩ (.string ⟨#[]⟩)).setCell ⟨w.heap.size, 9, none⟩ (.string ⟨#[]⟩)).setCell ⟨w.heap.size, 10, none⟩ (.bool false)).setCell ⟨w.heap.size, 11, none⟩ (.int .i64 0)) := fun _ h => h
      refine hgo _ ?_
      clear hgo y0 f0 y1 f1 y2 f2 y3 f3 y4 f4 y5 f5 y6 f6 y7 f7 y8 f8 y9 f9 y10 f10 y11 f11
      generalize (putL w8 w.heap.size 0 [.int .i64 0, .int .i64 0, .int .i64 0, .int .u64 0, .int .i64 0, .int .u64 0, .int .i64 0, .int .i64 0, .string ⟨#[]⟩, .string ⟨#[]⟩, .bool false, .int .i64 0]) = W9 at *
      have z0 := K1.cell 0
      have z1 := K1.cell 1
      have z2 := K1.cell 2
      have z3 := K1.cell 3
      have z4 := K1.cell 4
      have z5 := K1.cell 5
      have z6 := K1.cell 6
      have z7 := K1.cell 7
      have z8 := K1.cell 8
      have z9 := K1.cell 9
      have z10 := K1.cell 10
      have z11 := K1.cell 11
      simp only [List.getElem?_toArray, List.getElem?_cons_zero, List.getElem?_cons_succ] at z0 z1 z2 z3 z4 z5 z6 z7 z8 z9 z10 z11
      exact bodyPost_ret (v := .tuple #[.agg #[.int .i64 0, .int .i64 0, .int .i64 0, .int .u64 0, .int .i64 0, .int .u64 0, .int .i64 0, .int .i64 0, .string ⟨#[]⟩, .string ⟨#[]⟩, .bool false, .int .i64 0], .int .i64 11]) (by simp [results, Try.results11, go_sem, z0, z1, z2, z3, z4, z5, z6, z7, z8, z9, z10, z11]) rfl (HP.out _ _ ⟨.inr ⟨rfl, HNO.out⟩, K3⟩)
  · rw [if_pos her]
    have HNO : Hid (∀ m, RightM m → 0 ≤ m.num → 0 ≤ m.life → msgB m ≠ l) := fun m h h0 h1 e => by
      have h2 := HRED.out m h h0 h1 e
      simp only [Prod.mk.injEq] at h2
      exact her h2.2.2
    have hne : ((er : Int) != 0) = true := by rw [bne_iff_ne]; omega
    clear her
    have HZ : Hid (Blk w8 w.heap.size #[.int .i64 0, .int .i64 0, .int .i64 0, .int .u64 0, .int .i64 0, .int .u64 0, .int .i64 0, .int .i64 0, .string ⟨#[]⟩, .string ⟨#[]⟩, .bool false, .int .i64 0] 27) := Blk.of HB0.out (HY7.out.block _ (by have := HSZ.out; omega))
    have HYW : Hid (Below w.heap.size w w8) := ext_trans HE0.out HY7.out
    have y0 := HZ.out.cell 0
    have f0 := HZ.out.frozen 0
    have y1 := HZ.out.cell 1
    have f1 := HZ.out.frozen 1
    have y2 := HZ.out.cell 2
    have f2 := HZ.out.frozen 2
    have y3 := HZ.out.cell 3
    have f3 := HZ.out.frozen 3
    have y4 := HZ.out.cell 4
    have f4 := HZ.out.frozen 4
    have y5 := HZ.out.cell 5
    have f5 := HZ.out.frozen 5
    have y6 := HZ.out.cell 6
    have f6 := HZ.out.frozen 6
    have y7 := HZ.out.cell 7
    have f7 := HZ.out.frozen 7
    have y8 := HZ.out.cell 8
    have f8 := HZ.out.frozen 8
    have y9 := HZ.out.cell 9
    have f9 := HZ.out.frozen 9
    have y10 := HZ.out.cell 10
    have f10 := HZ.out.frozen 10
    have y11 := HZ.out.cell 11
    have f11 := HZ.out.frozen 11
    go_wp2
    have K1 : Blk (putL w8 w.heap.size 0 [.int .i64 0, .int .i64 0, .int .i64 0, .int .u64 0, .int .i64 0, .int .u64 0, .int .i64 0, .int .i64 0, .string ⟨#[]⟩, .string ⟨#[]⟩, .bool false, .int .i64 0]) w.heap.size #[.int .i64 0, .int .i64 0, .int .i64 0, .int .u64 0, .int .i64 0, .int .u64 0, .int .i64 0, .int .i64 0, .string ⟨#[]⟩, .string ⟨#[]⟩, .bool false, .int .i64 0] 27 := putL_all [.int .i64 0, .int .i64 0, .int .i64 0, .int .u64 0, .int .i64 0, .int .u64 0, .int .i64 0, .int .i64 0, .string ⟨#[]⟩, .string ⟨#[]⟩, .bool false, .int .i64 0] HZ.out rfl
    have K3 : Below w.heap.size w (putL w8 w.heap.size 0 [.int .i64 0, .int .i64 0, .int .i64 0, .int .u64 0, .int .i64 0, .int .u64 0, .int .i64 0, .int .i64 0, .string ⟨#[]⟩, .string ⟨#[]⟩, .bool false, .int .i64 0]) := putL_below (Nat.le_refl _) [.int .i64 0, .int .i64 0, .int .i64 0, .int .u64 0, .int .i64 0, .int .u64 0, .int .i64 0, .int .i64 0, .string ⟨#[]⟩, .string ⟨#[]⟩, .bool false, .int .i64 0] 0 w8 HYW.out
    have hgo : ∀ (Q : World → Prop), Q (putL w8 w.heap.size 0 [.int .i64 0, .int .i64 0, .int .i64 0, .int .u64 0, .int .i64 0, .int .u64 0, .int .i64 0, .int .i64 0, .string ⟨#[]⟩, .string ⟨#[]⟩, .bool false, .int .i64 0]) → Q ((((((((((((w8.setCell ⟨w.heap.size, 0, none⟩ (.int .i64 0)).setCell ⟨w.heap.size, 1, none⟩ (.int .i64 0)).setCell ⟨w.heap.size, 2, none⟩ (.int .i64 0)).setCell ⟨w.heap.size, 3, none⟩ (.int .u64 0)).setCell ⟨w.heap.size, 4, none⟩ (.int .i64 0)).setCell ⟨w.heap.size, 5, none⟩ (.int .u64 0)).setCell ⟨w.heap.size, 6, none⟩ (.int .i64 0)).setCell ⟨w.heap.size, 7, none⟩ (.int .i64 0)).setCell ⟨w.heap.size, 8, none⟩ (.string ⟨#[]⟩)).setCell ⟨w.heap.size, 9, none⟩ (.string ⟨#[]⟩)).setCell ⟨w.heap.size, 10, none⟩ (.bool false)).setCell ⟨w.heap.size, 11, none⟩ (.int .i64 0)) := fun _ h => h
    refine hgo _ ?_
    clear hgo y0 f0 y1 f1 y2 f2 y3 f3 y4 f4 y5 f5 y6 f6 y7 f7 y8 f8 y9 f9 y10 f10 y11 f11
    generalize (putL w8 w.heap.size 0 [.int .i64 0, .int .i64 0, .int .i64 0, .int .u64 0, .int .i64 0, .int .u64 0, .int .i64 0, .int .i64 0, .string ⟨#[]⟩, .string ⟨#[]⟩, .bool false, .int .i64 0]) = W9 at *
    have z0 := K1.cell 0
    have z1 := K1.cell 1
    have z2 := K1.cell 2
    have z3 := K1.cell 3
    have z4 := K1.cell 4
    have z5 := K1.cell 5
    have z6 := K1.cell 6
    have z7 := K1.cell 7
    have z8 := K1.cell 8
    have z9 := K1.cell 9
    have z10 := K1.cell 10
    have z11 := K1.cell 11
    simp only [List.getElem?_toArray, List.getElem?_cons_zero, List.getElem?_cons_succ] at z0 z1 z2 z3 z4 z5 z6 z7 z8 z9 z10 z11
    exact bodyPost_ret (v := .tuple #[.agg #[.int .i64 0, .int .i64 0, .int .i64 0, .int .u64 0, .int .i64 0, .int .u64 0, .int .i64 0, .int .i64 0, .string ⟨#[]⟩, .string ⟨#[]⟩, .bool false, .int .i64 0], .int .i64 11]) (by simp [results, Try.results11, go_sem, z0, z1, z2, z3, z4, z5, z6, z7, z8, z9, z10, z11]) rfl (HP.out _ _ ⟨.inr ⟨rfl, HNO.out⟩, K3⟩)
end Go.Proofs.Ytefmeeffkjendaa

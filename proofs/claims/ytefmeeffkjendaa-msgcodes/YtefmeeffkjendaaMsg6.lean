/- msg: the law's bytes; whether two messages are one. Own lemmas, no statement. -/
import Derived.Test.YtefmeeffkjendaaMsg4
import Derived.Laws.StructEq
set_option linter.unusedSimpArgs false
set_option linter.unusedVariables false
namespace Go.Proofs.Ytefmeeffkjendaa
open Go.ChangeShapes Go.WideShapes Go.ChangeAt Go.RowKit

theorem u8_of {n : Int} (h0 : 0 ≤ n) (h1 : n < 128) : IntKind.u8.wrap n = ((UInt8.ofNat n.toNat).toNat : Int) ∧ intB n = [UInt8.ofNat n.toNat] := by
  constructor
  · have := u8_any n.toNat
    rw [Int.toNat_of_nonneg h0] at this
    exact this
  · unfold intB enc
    exact encF_small (by omega)
theorem u8_ex {n : Int} (h0 : 0 ≤ n) (h1 : n < 128) : ∃ b : UInt8, IntKind.u8.wrap n = (b.toNat : Int) ∧ intB n = [b] := ⟨_, u8_of h0 h1⟩
theorem src_new (W : World) (l : List UInt8) (hl : l.length ≤ 1000) : Src (W.alloc (.cells (bv l).toArray 5)) (.slice (some ⟨W.heap.size, 0, none⟩) l.length l.length) l := by
  refine ⟨_, _, rfl, Nat.le_refl _, by unfold maxLen; omega, fun e => (by cases e), fun ad e j u hu => ?_⟩
  cases e
  rw [Addr.add_mid, Nat.zero_add, (Blk.new W (bv l).toArray 5).cell, List.getElem?_toArray]
  exact hu
def exM : MsgQ := ⟨8, 1, 0, 5, 0, 0, 0, 0, ⟨#[]⟩, ⟨#[]⟩, false, 0⟩
theorem exM_right : RightM exM := (right_iff exM).1 (by kernel_rfl)
theorem exM_wf : exM.Wf := exM_right.wf (by decide) (by decide)
theorem exM_bytes : msgB exM = [8, 1, 0, 5, 0] := by kernel_rfl
set_option maxHeartbeats 1000000 in
theorem head15_any (w : World) : Calls Try.prog 7 #[] w fun e w' => e = .returned (.bool true) ∧ Below w.heap.size w w' := by
  have HX : Hid (Calls Try.prog 8 #[.agg #[.int .i64 8, .int .i64 1, .int .i64 0, .int .u64 5, .int .i64 0, .int .u64 0, .int .i64 0, .int .i64 0, .string ⟨#[]⟩, .string ⟨#[]⟩, .bool false, .int .i64 0]] w (EncM exM w)) := encode_any exM w exM_wf
  go_enter Try.func7, Try.ntmps7
  go_wp2_with fail
  refine HX.out.mono ?_
  rintro e w1 ⟨h, y⟩
  rcases h with ⟨_, g, cap, rfl, ho⟩ | ⟨h, _⟩
  · rw [exM_bytes] at ho ⊢
    have hs : (convert 29 9 (.slice (some ⟨g, 0, none⟩) 5 cap)).run Try.prog w1 = .ok (.string ⟨#[8, 1, 0, 5, 0]⟩) w1 := ho.src.str
    have HY : Hid (Below w.heap.size w w1) := y
    clear ho y HX
    go_wp2
    go_ret
    exact ⟨rfl, HY.out⟩
  · exact absurd exM_right h
set_option maxRecDepth 100000 in
set_option maxHeartbeats 8000000 in
theorem lawB2_any (x : MsgQ) (w : World) (hr : RightM x) (hw : x.Wf) (hk : x.kind = 2) (hh : x.has = false) : Calls Try.prog 12 #[.agg #[.int .i64 x.kind, .int .i64 x.frm, .int .i64 x.dst, .int .u64 x.num, .int .i64 x.node, .int .u64 x.life, .int .i64 x.n, .int .i64 x.op, .string x.key, .string x.val, .bool x.has, .int .i64 x.code]] w (Gives w (msgB x)) := by
  have hl : hasLifeB x.kind = true := decide_eq_true (by omega)
  have hn : hasNB x.kind = false := decide_eq_false (by omega)
  have hc : hasCodeB x.kind = false := decide_eq_false (by omega)
  obtain ⟨bk, wk, qk⟩ := u8_ex (n := x.kind) (by have := hr.kind; omega) (by have := hr.kind; omega)
  obtain ⟨bf, wf, qf⟩ := u8_ex (n := x.frm) (by have := hr.frm; omega) (by have := hr.frm; omega)
  obtain ⟨bd, wd, qd⟩ := u8_ex (n := x.dst) (by have := hr.dst; omega) (by have := hr.dst; omega)
  have e2 : (x.kind == 2) = true := by simp [hk]
  have e3 : (x.kind == 3) = false := by exact beq_eq_false_iff_ne.2 (by omega)
  have e4 : (x.kind == 4) = false := by exact beq_eq_false_iff_ne.2 (by omega)
  have e5 : (x.kind == 5) = false := by exact beq_eq_false_iff_ne.2 (by omega)
  have e6 : (x.kind == 6) = false := by exact beq_eq_false_iff_ne.2 (by omega)
  have HM : Hid (msgB x = (join (join [bk, bf, bd] (tidB x.num x.node)) (intB x.life))) := by
    show _ = _
    unfold msgB bodyB lifeB nB doB codeB didB join
    rw [hl, hn, hc, qk, qf, qd]
    simp [hk, List.append_assoc]
  have HTB : Hid (0 ≤ x.num ∧ x.num < 18446744073709551616) := hw.2.2.2.1
  have HLB : Hid (0 ≤ x.life ∧ x.life < 18446744073709551616) := hw.2.2.2.2.2.1
  have HNB : Hid (0 ≤ x.n ∧ x.n < 18446744073709551616) := by have := hr.n; show _ ∧ _; omega
  have wn : IntKind.u64.wrap x.n = x.n := by rw [IntKind.wrap_u64]; have := hr.n; omega
  have HVS : Hid (x.val.size ≤ 48) := by show _ ≤ _; rcases hr.val with e | e <;> omega
  have HH : Hid (x.has = false) := hh
  clear hr hw hk hh qk qf qd hl hn hc
  have HA : Hid (Blk (w.alloc (.cells #[.int .i64 x.kind, .int .i64 x.frm, .int .i64 x.dst, .int .u64 x.num, .int .i64 x.node, .int .u64 x.life, .int .i64 x.n, .int .i64 x.op, .string x.key, .string x.val, .bool x.has, .int .i64 x.code] 27)) w.heap.size #[.int .i64 x.kind, .int .i64 x.frm, .int .i64 x.dst, .int .u64 x.num, .int .i64 x.node, .int .u64 x.life, .int .i64 x.n, .int .i64 x.op, .string x.key, .string x.val, .bool x.has, .int .i64 x.code] 27) := Blk.new _ _ _
  have HY : Hid (Below w.heap.size w (w.alloc (.cells #[.int .i64 x.kind, .int .i64 x.frm, .int .i64 x.dst, .int .u64 x.num, .int .i64 x.node, .int .u64 x.life, .int .i64 x.n, .int .i64 x.op, .string x.key, .string x.val, .bool x.has, .int .i64 x.code] 27))) := (Below.refl _ _).alloc (Nat.le_refl _) _
  go_enter Try.func12, Try.ntmps12
  go_upto_region 1 with fail
  generalize w.alloc (.cells #[.int .i64 x.kind, .int .i64 x.frm, .int .i64 x.dst, .int .u64 x.num, .int .i64 x.node, .int .u64 x.life, .int .i64 x.n, .int .i64 x.op, .string x.key, .string x.val, .bool x.has, .int .i64 x.code] 27) = w0 at *
  have z0 : w0.cell? ⟨w.heap.size, 0, none⟩ = some (.int .i64 x.kind) := HA.out.cell 0
  have z1 : w0.cell? ⟨w.heap.size, 1, none⟩ = some (.int .i64 x.frm) := HA.out.cell 1
  have z2 : w0.cell? ⟨w.heap.size, 2, none⟩ = some (.int .i64 x.dst) := HA.out.cell 2
  have z3 : w0.cell? ⟨w.heap.size, 3, none⟩ = some (.int .u64 x.num) := HA.out.cell 3
  have z4 : w0.cell? ⟨w.heap.size, 4, none⟩ = some (.int .i64 x.node) := HA.out.cell 4
  have z5 : w0.cell? ⟨w.heap.size, 5, none⟩ = some (.int .u64 x.life) := HA.out.cell 5
  have z6 : w0.cell? ⟨w.heap.size, 6, none⟩ = some (.int .i64 x.n) := HA.out.cell 6
  have z7 : w0.cell? ⟨w.heap.size, 7, none⟩ = some (.int .i64 x.op) := HA.out.cell 7
  have z8 : w0.cell? ⟨w.heap.size, 8, none⟩ = some (.string x.key) := HA.out.cell 8
  have z9 : w0.cell? ⟨w.heap.size, 9, none⟩ = some (.string x.val) := HA.out.cell 9
  have z11 : w0.cell? ⟨w.heap.size, 11, none⟩ = some (.int .i64 x.code) := HA.out.cell 11
  have z10 : w0.cell? ⟨w.heap.size, 10, none⟩ = some (.bool false) := by rw [← HH.out]; exact HA.out.cell 10
  have HY_w0 : Hid (Below w0.heap.size w0 w0) := Below.refl _ _
  have HSZ : Hid (w.heap.size < w0.heap.size) := HA.out.lt
  have HSR : Hid (Src (w0.alloc (.cells #[.int .u8 (bk.toNat : Int), .int .u8 (bf.toNat : Int), .int .u8 (bd.toNat : Int)] 5)) (.slice (some ⟨w0.heap.size, 0, none⟩) 3 3) [bk, bf, bd]) := src_new w0 [bk, bf, bd] (by simp)
  have zA3 : (w0.alloc (.cells #[.int .u8 (bk.toNat : Int), .int .u8 (bf.toNat : Int), .int .u8 (bd.toNat : Int)] 5)).cell? ⟨w.heap.size, 3, none⟩ = some (.int .u64 x.num) := (HA.out.alloc _).cell 3
  have zA4 : (w0.alloc (.cells #[.int .u8 (bk.toNat : Int), .int .u8 (bf.toNat : Int), .int .u8 (bd.toNat : Int)] 5)).cell? ⟨w.heap.size, 4, none⟩ = some (.int .i64 x.node) := (HA.out.alloc _).cell 4
  have HY_w1 : Hid (Below w0.heap.size w0 (w0.alloc (.cells #[.int .u8 (bk.toNat : Int), .int .u8 (bf.toNat : Int), .int .u8 (bd.toNat : Int)] 5))) := (Below.refl _ _).alloc (Nat.le_refl _) _
  go_wp2_with fail
  generalize (w0.alloc (.cells #[.int .u8 (bk.toNat : Int), .int .u8 (bf.toNat : Int), .int .u8 (bd.toNat : Int)] 5)) = w1 at *
  clear wk wf wd zA3 zA4
  refine (tidM_any (some ⟨w0.heap.size, 0, none⟩) 3 3 [bk, bf, bd] x.num x.node _ HSR.out HTB.out (by simp)).mono ?_
  clear z0 z1 z2 z3 z4 z5 z6 z7 z8 z9 z10 z11
  rintro e u1 ⟨g1, c1, rfl, ho, y⟩
  have HY_u1 : Hid (Below w0.heap.size w0 u1) := HY_w1.out.trans (y.mono HY_w1.out.size)
  have ho := ho.mono HY_w1.out.size
  clear y
  obtain ⟨L1, hL⟩ : ∃ y, y = join [bk, bf, bd] (tidB x.num x.node) := ⟨_, rfl⟩
  rw [← hL] at ho ⊢
  have HL1 : Hid (L1 = join [bk, bf, bd] (tidB x.num x.node)) := hL
  clear hL
  have HB1 : Hid (L1.length ≤ 200) := catB HL1.out (by simp) (tidB_len _ _)
  have HO1 : Hid (Own u1 w0.heap.size (.slice (some ⟨g1, 0, none⟩) L1.length c1) L1) := ho
  clear ho
  have HA_u1 : Hid (Blk u1 w.heap.size #[.int .i64 x.kind, .int .i64 x.frm, .int .i64 x.dst, .int .u64 x.num, .int .i64 x.node, .int .u64 x.life, .int .i64 x.n, .int .i64 x.op, .string x.key, .string x.val, .bool x.has, .int .i64 x.code] 27) := Blk.of HA.out (HY_u1.out.block _ HSZ.out)
  have z0 : u1.cell? ⟨w.heap.size, 0, none⟩ = some (.int .i64 x.kind) := HA_u1.out.cell 0
  have z1 : u1.cell? ⟨w.heap.size, 1, none⟩ = some (.int .i64 x.frm) := HA_u1.out.cell 1
  have z2 : u1.cell? ⟨w.heap.size, 2, none⟩ = some (.int .i64 x.dst) := HA_u1.out.cell 2
  have z3 : u1.cell? ⟨w.heap.size, 3, none⟩ = some (.int .u64 x.num) := HA_u1.out.cell 3
  have z4 : u1.cell? ⟨w.heap.size, 4, none⟩ = some (.int .i64 x.node) := HA_u1.out.cell 4
  have z5 : u1.cell? ⟨w.heap.size, 5, none⟩ = some (.int .u64 x.life) := HA_u1.out.cell 5
  have z6 : u1.cell? ⟨w.heap.size, 6, none⟩ = some (.int .i64 x.n) := HA_u1.out.cell 6
  have z7 : u1.cell? ⟨w.heap.size, 7, none⟩ = some (.int .i64 x.op) := HA_u1.out.cell 7
  have z8 : u1.cell? ⟨w.heap.size, 8, none⟩ = some (.string x.key) := HA_u1.out.cell 8
  have z9 : u1.cell? ⟨w.heap.size, 9, none⟩ = some (.string x.val) := HA_u1.out.cell 9
  have z11 : u1.cell? ⟨w.heap.size, 11, none⟩ = some (.int .i64 x.code) := HA_u1.out.cell 11
  have z10 : u1.cell? ⟨w.heap.size, 10, none⟩ = some (.bool false) := by rw [← HH.out]; exact HA_u1.out.cell 10
  go_wp2_with fail
  refine (putM_any (some ⟨g1, 0, none⟩) L1.length c1 L1 x.life _ HO1.out.src HLB.out (by have := HB1.out; omega)).mono ?_
  rintro e u2 ⟨g2, c2, rfl, ho, y⟩
  have HY_u2 : Hid (Below w0.heap.size w0 u2) := HY_u1.out.trans (y.mono HY_u1.out.size)
  have ho := ho.mono HY_u1.out.size
  clear y
  obtain ⟨L2, hL⟩ : ∃ y, y = join L1 (intB x.life) := ⟨_, rfl⟩
  rw [← hL] at ho ⊢
  have HL2 : Hid (L2 = join L1 (intB x.life)) := hL
  clear hL
  have HB2 : Hid (L2.length ≤ 300) := catB HL2.out HB1.out (intB_len _)
  have HO2 : Hid (Own u2 w0.heap.size (.slice (some ⟨g2, 0, none⟩) L2.length c2) L2) := ho
  clear ho HO1
  have HA_u2 : Hid (Blk u2 w.heap.size #[.int .i64 x.kind, .int .i64 x.frm, .int .i64 x.dst, .int .u64 x.num, .int .i64 x.node, .int .u64 x.life, .int .i64 x.n, .int .i64 x.op, .string x.key, .string x.val, .bool x.has, .int .i64 x.code] 27) := Blk.of HA.out (HY_u2.out.block _ HSZ.out)
  clear z0 z1 z2 z3 z4 z5 z6 z7 z8 z9 z10 z11
  have z0 : u2.cell? ⟨w.heap.size, 0, none⟩ = some (.int .i64 x.kind) := HA_u2.out.cell 0
  have z1 : u2.cell? ⟨w.heap.size, 1, none⟩ = some (.int .i64 x.frm) := HA_u2.out.cell 1
  have z2 : u2.cell? ⟨w.heap.size, 2, none⟩ = some (.int .i64 x.dst) := HA_u2.out.cell 2
  have z3 : u2.cell? ⟨w.heap.size, 3, none⟩ = some (.int .u64 x.num) := HA_u2.out.cell 3
  have z4 : u2.cell? ⟨w.heap.size, 4, none⟩ = some (.int .i64 x.node) := HA_u2.out.cell 4
  have z5 : u2.cell? ⟨w.heap.size, 5, none⟩ = some (.int .u64 x.life) := HA_u2.out.cell 5
  have z6 : u2.cell? ⟨w.heap.size, 6, none⟩ = some (.int .i64 x.n) := HA_u2.out.cell 6
  have z7 : u2.cell? ⟨w.heap.size, 7, none⟩ = some (.int .i64 x.op) := HA_u2.out.cell 7
  have z8 : u2.cell? ⟨w.heap.size, 8, none⟩ = some (.string x.key) := HA_u2.out.cell 8
  have z9 : u2.cell? ⟨w.heap.size, 9, none⟩ = some (.string x.val) := HA_u2.out.cell 9
  have z11 : u2.cell? ⟨w.heap.size, 11, none⟩ = some (.int .i64 x.code) := HA_u2.out.cell 11
  have z10 : u2.cell? ⟨w.heap.size, 10, none⟩ = some (.bool false) := by rw [← HH.out]; exact HA_u2.out.cell 10
  have HEQ : Hid (L2 = msgB x) := by show _ = _; rw [HM.out, HL2.out, HL1.out]
  go_wp2
  go_ret
  refine ⟨g2, c2, ?_, ?_, HY.out.trans (HY_u2.out.mono HY.out.size)⟩
  · rw [HEQ.out]; rfl
  · have := HO2.out.mono HY.out.size
    rw [HEQ.out] at this
    exact this
set_option maxRecDepth 100000 in
set_option maxHeartbeats 8000000 in
theorem lawB3_any (x : MsgQ) (w : World) (hr : RightM x) (hw : x.Wf) (hk : x.kind = 3) (hh : x.has = false) : Calls Try.prog 12 #[.agg #[.int .i64 x.kind, .int .i64 x.frm, .int .i64 x.dst, .int .u64 x.num, .int .i64 x.node, .int .u64 x.life, .int .i64 x.n, .int .i64 x.op, .string x.key, .string x.val, .bool x.has, .int .i64 x.code]] w (Gives w (msgB x)) := by
  have hl : hasLifeB x.kind = true := decide_eq_true (by omega)
  have hn : hasNB x.kind = true := decide_eq_true (by omega)
  have hc : hasCodeB x.kind = false := decide_eq_false (by omega)
  obtain ⟨bk, wk, qk⟩ := u8_ex (n := x.kind) (by have := hr.kind; omega) (by have := hr.kind; omega)
  obtain ⟨bf, wf, qf⟩ := u8_ex (n := x.frm) (by have := hr.frm; omega) (by have := hr.frm; omega)
  obtain ⟨bd, wd, qd⟩ := u8_ex (n := x.dst) (by have := hr.dst; omega) (by have := hr.dst; omega)
  have e2 : (x.kind == 2) = false := by exact beq_eq_false_iff_ne.2 (by omega)
  have e3 : (x.kind == 3) = true := by simp [hk]
  have e4 : (x.kind == 4) = false := by exact beq_eq_false_iff_ne.2 (by omega)
  have e5 : (x.kind == 5) = false := by exact beq_eq_false_iff_ne.2 (by omega)
  have e6 : (x.kind == 6) = false := by exact beq_eq_false_iff_ne.2 (by omega)
  have HM : Hid (msgB x = (join (join (join (join (join (join [bk, bf, bd] (tidB x.num x.node)) (intB x.life)) (intB x.n)) (intB x.op)) (textB x.key)) (textB x.val))) := by
    show _ = _
    unfold msgB bodyB lifeB nB doB codeB didB join
    rw [hl, hn, hc, qk, qf, qd]
    simp [hk, List.append_assoc]
  have HTB : Hid (0 ≤ x.num ∧ x.num < 18446744073709551616) := hw.2.2.2.1
  have HLB : Hid (0 ≤ x.life ∧ x.life < 18446744073709551616) := hw.2.2.2.2.2.1
  have HNB : Hid (0 ≤ x.n ∧ x.n < 18446744073709551616) := by have := hr.n; show _ ∧ _; omega
  have wn : IntKind.u64.wrap x.n = x.n := by rw [IntKind.wrap_u64]; have := hr.n; omega
  have HVS : Hid (x.val.size ≤ 48) := by show _ ≤ _; rcases hr.val with e | e <;> omega
  have HKS : Hid (x.key.size ≤ 48) := by have := (hr.deed3 hk).2.2.2; show _ ≤ _; omega
  obtain ⟨bo, wo, qo⟩ := u8_ex (n := x.op) (by have := hr.deed3 hk; omega) (by have := hr.deed3 hk; omega)
  have HQO : Hid (intB x.op = [bo]) := qo
  clear qo
  have HH : Hid (x.has = false) := hh
  clear hr hw hk hh qk qf qd hl hn hc
  have HA : Hid (Blk (w.alloc (.cells #[.int .i64 x.kind, .int .i64 x.frm, .int .i64 x.dst, .int .u64 x.num, .int .i64 x.node, .int .u64 x.life, .int .i64 x.n, .int .i64 x.op, .string x.key, .string x.val, .bool x.has, .int .i64 x.code] 27)) w.heap.size #[.int .i64 x.kind, .int .i64 x.frm, .int .i64 x.dst, .int .u64 x.num, .int .i64 x.node, .int .u64 x.life, .int .i64 x.n, .int .i64 x.op, .string x.key, .string x.val, .bool x.has, .int .i64 x.code] 27) := Blk.new _ _ _
  have HY : Hid (Below w.heap.size w (w.alloc (.cells #[.int .i64 x.kind, .int .i64 x.frm, .int .i64 x.dst, .int .u64 x.num, .int .i64 x.node, .int .u64 x.life, .int .i64 x.n, .int .i64 x.op, .string x.key, .string x.val, .bool x.has, .int .i64 x.code] 27))) := (Below.refl _ _).alloc (Nat.le_refl _) _
  go_enter Try.func12, Try.ntmps12
  go_upto_region 1 with fail
  generalize w.alloc (.cells #[.int .i64 x.kind, .int .i64 x.frm, .int .i64 x.dst, .int .u64 x.num, .int .i64 x.node, .int .u64 x.life, .int .i64 x.n, .int .i64 x.op, .string x.key, .string x.val, .bool x.has, .int .i64 x.code] 27) = w0 at *
  have z0 : w0.cell? ⟨w.heap.size, 0, none⟩ = some (.int .i64 x.kind) := HA.out.cell 0
  have z1 : w0.cell? ⟨w.heap.size, 1, none⟩ = some (.int .i64 x.frm) := HA.out.cell 1
  have z2 : w0.cell? ⟨w.heap.size, 2, none⟩ = some (.int .i64 x.dst) := HA.out.cell 2
  have z3 : w0.cell? ⟨w.heap.size, 3, none⟩ = some (.int .u64 x.num) := HA.out.cell 3
  have z4 : w0.cell? ⟨w.heap.size, 4, none⟩ = some (.int .i64 x.node) := HA.out.cell 4
  have z5 : w0.cell? ⟨w.heap.size, 5, none⟩ = some (.int .u64 x.life) := HA.out.cell 5
  have z6 : w0.cell? ⟨w.heap.size, 6, none⟩ = some (.int .i64 x.n) := HA.out.cell 6
  have z7 : w0.cell? ⟨w.heap.size, 7, none⟩ = some (.int .i64 x.op) := HA.out.cell 7
  have z8 : w0.cell? ⟨w.heap.size, 8, none⟩ = some (.string x.key) := HA.out.cell 8
  have z9 : w0.cell? ⟨w.heap.size, 9, none⟩ = some (.string x.val) := HA.out.cell 9
  have z11 : w0.cell? ⟨w.heap.size, 11, none⟩ = some (.int .i64 x.code) := HA.out.cell 11
  have z10 : w0.cell? ⟨w.heap.size, 10, none⟩ = some (.bool false) := by rw [← HH.out]; exact HA.out.cell 10
  have HY_w0 : Hid (Below w0.heap.size w0 w0) := Below.refl _ _
  have HSZ : Hid (w.heap.size < w0.heap.size) := HA.out.lt
  have HSR : Hid (Src (w0.alloc (.cells #[.int .u8 (bk.toNat : Int), .int .u8 (bf.toNat : Int), .int .u8 (bd.toNat : Int)] 5)) (.slice (some ⟨w0.heap.size, 0, none⟩) 3 3) [bk, bf, bd]) := src_new w0 [bk, bf, bd] (by simp)
  have zA3 : (w0.alloc (.cells #[.int .u8 (bk.toNat : Int), .int .u8 (bf.toNat : Int), .int .u8 (bd.toNat : Int)] 5)).cell? ⟨w.heap.size, 3, none⟩ = some (.int .u64 x.num) := (HA.out.alloc _).cell 3
  have zA4 : (w0.alloc (.cells #[.int .u8 (bk.toNat : Int), .int .u8 (bf.toNat : Int), .int .u8 (bd.toNat : Int)] 5)).cell? ⟨w.heap.size, 4, none⟩ = some (.int .i64 x.node) := (HA.out.alloc _).cell 4
  have HY_w1 : Hid (Below w0.heap.size w0 (w0.alloc (.cells #[.int .u8 (bk.toNat : Int), .int .u8 (bf.toNat : Int), .int .u8 (bd.toNat : Int)] 5))) := (Below.refl _ _).alloc (Nat.le_refl _) _
  go_wp2_with fail
  generalize (w0.alloc (.cells #[.int .u8 (bk.toNat : Int), .int .u8 (bf.toNat : Int), .int .u8 (bd.toNat : Int)] 5)) = w1 at *
  clear wk wf wd zA3 zA4
  refine (tidM_any (some ⟨w0.heap.size, 0, none⟩) 3 3 [bk, bf, bd] x.num x.node _ HSR.out HTB.out (by simp)).mono ?_
  clear z0 z1 z2 z3 z4 z5 z6 z7 z8 z9 z10 z11
  rintro e u1 ⟨g1, c1, rfl, ho, y⟩
  have HY_u1 : Hid (Below w0.heap.size w0 u1) := HY_w1.out.trans (y.mono HY_w1.out.size)
  have ho := ho.mono HY_w1.out.size
  clear y
  obtain ⟨L1, hL⟩ : ∃ y, y = join [bk, bf, bd] (tidB x.num x.node) := ⟨_, rfl⟩
  rw [← hL] at ho ⊢
  have HL1 : Hid (L1 = join [bk, bf, bd] (tidB x.num x.node)) := hL
  clear hL
  have HB1 : Hid (L1.length ≤ 200) := catB HL1.out (by simp) (tidB_len _ _)
  have HO1 : Hid (Own u1 w0.heap.size (.slice (some ⟨g1, 0, none⟩) L1.length c1) L1) := ho
  clear ho
  have HA_u1 : Hid (Blk u1 w.heap.size #[.int .i64 x.kind, .int .i64 x.frm, .int .i64 x.dst, .int .u64 x.num, .int .i64 x.node, .int .u64 x.life, .int .i64 x.n, .int .i64 x.op, .string x.key, .string x.val, .bool x.has, .int .i64 x.code] 27) := Blk.of HA.out (HY_u1.out.block _ HSZ.out)
  have z0 : u1.cell? ⟨w.heap.size, 0, none⟩ = some (.int .i64 x.kind) := HA_u1.out.cell 0
  have z1 : u1.cell? ⟨w.heap.size, 1, none⟩ = some (.int .i64 x.frm) := HA_u1.out.cell 1
  have z2 : u1.cell? ⟨w.heap.size, 2, none⟩ = some (.int .i64 x.dst) := HA_u1.out.cell 2
  have z3 : u1.cell? ⟨w.heap.size, 3, none⟩ = some (.int .u64 x.num) := HA_u1.out.cell 3
  have z4 : u1.cell? ⟨w.heap.size, 4, none⟩ = some (.int .i64 x.node) := HA_u1.out.cell 4
  have z5 : u1.cell? ⟨w.heap.size, 5, none⟩ = some (.int .u64 x.life) := HA_u1.out.cell 5
  have z6 : u1.cell? ⟨w.heap.size, 6, none⟩ = some (.int .i64 x.n) := HA_u1.out.cell 6
  have z7 : u1.cell? ⟨w.heap.size, 7, none⟩ = some (.int .i64 x.op) := HA_u1.out.cell 7
  have z8 : u1.cell? ⟨w.heap.size, 8, none⟩ = some (.string x.key) := HA_u1.out.cell 8
  have z9 : u1.cell? ⟨w.heap.size, 9, none⟩ = some (.string x.val) := HA_u1.out.cell 9
  have z11 : u1.cell? ⟨w.heap.size, 11, none⟩ = some (.int .i64 x.code) := HA_u1.out.cell 11
  have z10 : u1.cell? ⟨w.heap.size, 10, none⟩ = some (.bool false) := by rw [← HH.out]; exact HA_u1.out.cell 10
  go_wp2_with fail
  refine (putM_any (some ⟨g1, 0, none⟩) L1.length c1 L1 x.life _ HO1.out.src HLB.out (by have := HB1.out; omega)).mono ?_
  rintro e u2 ⟨g2, c2, rfl, ho, y⟩
  have HY_u2 : Hid (Below w0.heap.size w0 u2) := HY_u1.out.trans (y.mono HY_u1.out.size)
  have ho := ho.mono HY_u1.out.size
  clear y
  obtain ⟨L2, hL⟩ : ∃ y, y = join L1 (intB x.life) := ⟨_, rfl⟩
  rw [← hL] at ho ⊢
  have HL2 : Hid (L2 = join L1 (intB x.life)) := hL
  clear hL
  have HB2 : Hid (L2.length ≤ 300) := catB HL2.out HB1.out (intB_len _)
  have HO2 : Hid (Own u2 w0.heap.size (.slice (some ⟨g2, 0, none⟩) L2.length c2) L2) := ho
  clear ho HO1
  have HA_u2 : Hid (Blk u2 w.heap.size #[.int .i64 x.kind, .int .i64 x.frm, .int .i64 x.dst, .int .u64 x.num, .int .i64 x.node, .int .u64 x.life, .int .i64 x.n, .int .i64 x.op, .string x.key, .string x.val, .bool x.has, .int .i64 x.code] 27) := Blk.of HA.out (HY_u2.out.block _ HSZ.out)
  clear z0 z1 z2 z3 z4 z5 z6 z7 z8 z9 z10 z11
  have z0 : u2.cell? ⟨w.heap.size, 0, none⟩ = some (.int .i64 x.kind) := HA_u2.out.cell 0
  have z1 : u2.cell? ⟨w.heap.size, 1, none⟩ = some (.int .i64 x.frm) := HA_u2.out.cell 1
  have z2 : u2.cell? ⟨w.heap.size, 2, none⟩ = some (.int .i64 x.dst) := HA_u2.out.cell 2
  have z3 : u2.cell? ⟨w.heap.size, 3, none⟩ = some (.int .u64 x.num) := HA_u2.out.cell 3
  have z4 : u2.cell? ⟨w.heap.size, 4, none⟩ = some (.int .i64 x.node) := HA_u2.out.cell 4
  have z5 : u2.cell? ⟨w.heap.size, 5, none⟩ = some (.int .u64 x.life) := HA_u2.out.cell 5
  have z6 : u2.cell? ⟨w.heap.size, 6, none⟩ = some (.int .i64 x.n) := HA_u2.out.cell 6
  have z7 : u2.cell? ⟨w.heap.size, 7, none⟩ = some (.int .i64 x.op) := HA_u2.out.cell 7
  have z8 : u2.cell? ⟨w.heap.size, 8, none⟩ = some (.string x.key) := HA_u2.out.cell 8
  have z9 : u2.cell? ⟨w.heap.size, 9, none⟩ = some (.string x.val) := HA_u2.out.cell 9
  have z11 : u2.cell? ⟨w.heap.size, 11, none⟩ = some (.int .i64 x.code) := HA_u2.out.cell 11
  have z10 : u2.cell? ⟨w.heap.size, 10, none⟩ = some (.bool false) := by rw [← HH.out]; exact HA_u2.out.cell 10
  go_wp2_with fail
  refine (putM_any (some ⟨g2, 0, none⟩) L2.length c2 L2 x.n _ HO2.out.src HNB.out (by have := HB2.out; omega)).mono ?_
  rintro e u3 ⟨g3, c3, rfl, ho, y⟩
  have HY_u3 : Hid (Below w0.heap.size w0 u3) := HY_u2.out.trans (y.mono HY_u2.out.size)
  have ho := ho.mono HY_u2.out.size
  clear y
  obtain ⟨L3, hL⟩ : ∃ y, y = join L2 (intB x.n) := ⟨_, rfl⟩
  rw [← hL] at ho ⊢
  have HL3 : Hid (L3 = join L2 (intB x.n)) := hL
  clear hL
  have HB3 : Hid (L3.length ≤ 400) := catB HL3.out HB2.out (intB_len _)
  have HO3 : Hid (Own u3 w0.heap.size (.slice (some ⟨g3, 0, none⟩) L3.length c3) L3) := ho
  clear ho HO2
  have HA_u3 : Hid (Blk u3 w.heap.size #[.int .i64 x.kind, .int .i64 x.frm, .int .i64 x.dst, .int .u64 x.num, .int .i64 x.node, .int .u64 x.life, .int .i64 x.n, .int .i64 x.op, .string x.key, .string x.val, .bool x.has, .int .i64 x.code] 27) := Blk.of HA.out (HY_u3.out.block _ HSZ.out)
  clear z0 z1 z2 z3 z4 z5 z6 z7 z8 z9 z10 z11
  have z0 : u3.cell? ⟨w.heap.size, 0, none⟩ = some (.int .i64 x.kind) := HA_u3.out.cell 0
  have z1 : u3.cell? ⟨w.heap.size, 1, none⟩ = some (.int .i64 x.frm) := HA_u3.out.cell 1
  have z2 : u3.cell? ⟨w.heap.size, 2, none⟩ = some (.int .i64 x.dst) := HA_u3.out.cell 2
  have z3 : u3.cell? ⟨w.heap.size, 3, none⟩ = some (.int .u64 x.num) := HA_u3.out.cell 3
  have z4 : u3.cell? ⟨w.heap.size, 4, none⟩ = some (.int .i64 x.node) := HA_u3.out.cell 4
  have z5 : u3.cell? ⟨w.heap.size, 5, none⟩ = some (.int .u64 x.life) := HA_u3.out.cell 5
  have z6 : u3.cell? ⟨w.heap.size, 6, none⟩ = some (.int .i64 x.n) := HA_u3.out.cell 6
  have z7 : u3.cell? ⟨w.heap.size, 7, none⟩ = some (.int .i64 x.op) := HA_u3.out.cell 7
  have z8 : u3.cell? ⟨w.heap.size, 8, none⟩ = some (.string x.key) := HA_u3.out.cell 8
  have z9 : u3.cell? ⟨w.heap.size, 9, none⟩ = some (.string x.val) := HA_u3.out.cell 9
  have z11 : u3.cell? ⟨w.heap.size, 11, none⟩ = some (.int .i64 x.code) := HA_u3.out.cell 11
  have z10 : u3.cell? ⟨w.heap.size, 10, none⟩ = some (.bool false) := by rw [← HH.out]; exact HA_u3.out.cell 10
  have hHL : L3.length < 1099511627776 := by have := HB3.out; omega
  go_wp2_with (first | (at_builtin; refine wpList_push _ rfl _ _ rfl w0.heap.size _ L3 bo _ rfl HO3.out rfl rfl hHL HY_u3.out.size ?_))
  intro v u4 ho hb2 _
  obtain ⟨g4, c4, hv, _⟩ := Own.form ho (show snoc L3 bo ≠ [] by unfold snoc; simp)
  subst hv
  have hsn : snoc L3 bo = join L3 (intB x.op) := by rw [HQO.out]; rfl
  rw [hsn] at ho ⊢
  have HY_u4 : Hid (Below w0.heap.size w0 u4) := HY_u3.out.trans hb2
  clear hb2 hsn hHL wo
  obtain ⟨L4, hL⟩ : ∃ y, y = join L3 (intB x.op) := ⟨_, rfl⟩
  rw [← hL] at ho ⊢
  have HL4 : Hid (L4 = join L3 (intB x.op)) := hL
  clear hL
  have HB4 : Hid (L4.length ≤ 500) := catB HL4.out HB3.out (intB_len _)
  have HO4 : Hid (Own u4 w0.heap.size (.slice (some ⟨g4, 0, none⟩) L4.length c4) L4) := ho
  clear ho HO3
  have HA_u4 : Hid (Blk u4 w.heap.size #[.int .i64 x.kind, .int .i64 x.frm, .int .i64 x.dst, .int .u64 x.num, .int .i64 x.node, .int .u64 x.life, .int .i64 x.n, .int .i64 x.op, .string x.key, .string x.val, .bool x.has, .int .i64 x.code] 27) := Blk.of HA.out (HY_u4.out.block _ HSZ.out)
  clear z0 z1 z2 z3 z4 z5 z6 z7 z8 z9 z10 z11
  have z0 : u4.cell? ⟨w.heap.size, 0, none⟩ = some (.int .i64 x.kind) := HA_u4.out.cell 0
  have z1 : u4.cell? ⟨w.heap.size, 1, none⟩ = some (.int .i64 x.frm) := HA_u4.out.cell 1
  have z2 : u4.cell? ⟨w.heap.size, 2, none⟩ = some (.int .i64 x.dst) := HA_u4.out.cell 2
  have z3 : u4.cell? ⟨w.heap.size, 3, none⟩ = some (.int .u64 x.num) := HA_u4.out.cell 3
  have z4 : u4.cell? ⟨w.heap.size, 4, none⟩ = some (.int .i64 x.node) := HA_u4.out.cell 4
  have z5 : u4.cell? ⟨w.heap.size, 5, none⟩ = some (.int .u64 x.life) := HA_u4.out.cell 5
  have z6 : u4.cell? ⟨w.heap.size, 6, none⟩ = some (.int .i64 x.n) := HA_u4.out.cell 6
  have z7 : u4.cell? ⟨w.heap.size, 7, none⟩ = some (.int .i64 x.op) := HA_u4.out.cell 7
  have z8 : u4.cell? ⟨w.heap.size, 8, none⟩ = some (.string x.key) := HA_u4.out.cell 8
  have z9 : u4.cell? ⟨w.heap.size, 9, none⟩ = some (.string x.val) := HA_u4.out.cell 9
  have z11 : u4.cell? ⟨w.heap.size, 11, none⟩ = some (.int .i64 x.code) := HA_u4.out.cell 11
  have z10 : u4.cell? ⟨w.heap.size, 10, none⟩ = some (.bool false) := by rw [← HH.out]; exact HA_u4.out.cell 10
  go_wp2_with fail
  refine (textM_any (some ⟨g4, 0, none⟩) L4.length c4 L4 x.key _ HO4.out.src (by have := HKS.out; omega) (by have := HB4.out; omega)).mono ?_
  rintro e u5 ⟨g5, c5, rfl, ho, y⟩
  have HY_u5 : Hid (Below w0.heap.size w0 u5) := HY_u4.out.trans (y.mono HY_u4.out.size)
  have ho := ho.mono HY_u4.out.size
  clear y
  obtain ⟨L5, hL⟩ : ∃ y, y = join L4 (textB x.key) := ⟨_, rfl⟩
  rw [← hL] at ho ⊢
  have HL5 : Hid (L5 = join L4 (textB x.key)) := hL
  clear hL
  have HB5 : Hid (L5.length ≤ 600) := catB HL5.out HB4.out (textB_len HKS.out)
  have HO5 : Hid (Own u5 w0.heap.size (.slice (some ⟨g5, 0, none⟩) L5.length c5) L5) := ho
  clear ho HO4
  have HA_u5 : Hid (Blk u5 w.heap.size #[.int .i64 x.kind, .int .i64 x.frm, .int .i64 x.dst, .int .u64 x.num, .int .i64 x.node, .int .u64 x.life, .int .i64 x.n, .int .i64 x.op, .string x.key, .string x.val, .bool x.has, .int .i64 x.code] 27) := Blk.of HA.out (HY_u5.out.block _ HSZ.out)
  clear z0 z1 z2 z3 z4 z5 z6 z7 z8 z9 z10 z11
  have z0 : u5.cell? ⟨w.heap.size, 0, none⟩ = some (.int .i64 x.kind) := HA_u5.out.cell 0
  have z1 : u5.cell? ⟨w.heap.size, 1, none⟩ = some (.int .i64 x.frm) := HA_u5.out.cell 1
  have z2 : u5.cell? ⟨w.heap.size, 2, none⟩ = some (.int .i64 x.dst) := HA_u5.out.cell 2
  have z3 : u5.cell? ⟨w.heap.size, 3, none⟩ = some (.int .u64 x.num) := HA_u5.out.cell 3
  have z4 : u5.cell? ⟨w.heap.size, 4, none⟩ = some (.int .i64 x.node) := HA_u5.out.cell 4
  have z5 : u5.cell? ⟨w.heap.size, 5, none⟩ = some (.int .u64 x.life) := HA_u5.out.cell 5
  have z6 : u5.cell? ⟨w.heap.size, 6, none⟩ = some (.int .i64 x.n) := HA_u5.out.cell 6
  have z7 : u5.cell? ⟨w.heap.size, 7, none⟩ = some (.int .i64 x.op) := HA_u5.out.cell 7
  have z8 : u5.cell? ⟨w.heap.size, 8, none⟩ = some (.string x.key) := HA_u5.out.cell 8
  have z9 : u5.cell? ⟨w.heap.size, 9, none⟩ = some (.string x.val) := HA_u5.out.cell 9
  have z11 : u5.cell? ⟨w.heap.size, 11, none⟩ = some (.int .i64 x.code) := HA_u5.out.cell 11
  have z10 : u5.cell? ⟨w.heap.size, 10, none⟩ = some (.bool false) := by rw [← HH.out]; exact HA_u5.out.cell 10
  go_wp2_with fail
  refine (textM_any (some ⟨g5, 0, none⟩) L5.length c5 L5 x.val _ HO5.out.src (by have := HVS.out; omega) (by have := HB5.out; omega)).mono ?_
  rintro e u6 ⟨g6, c6, rfl, ho, y⟩
  have HY_u6 : Hid (Below w0.heap.size w0 u6) := HY_u5.out.trans (y.mono HY_u5.out.size)
  have ho := ho.mono HY_u5.out.size
  clear y
  obtain ⟨L6, hL⟩ : ∃ y, y = join L5 (textB x.val) := ⟨_, rfl⟩
  rw [← hL] at ho ⊢
  have HL6 : Hid (L6 = join L5 (textB x.val)) := hL
  clear hL
  have HB6 : Hid (L6.length ≤ 700) := catB HL6.out HB5.out (textB_len HVS.out)
  have HO6 : Hid (Own u6 w0.heap.size (.slice (some ⟨g6, 0, none⟩) L6.length c6) L6) := ho
  clear ho HO5
  have HA_u6 : Hid (Blk u6 w.heap.size #[.int .i64 x.kind, .int .i64 x.frm, .int .i64 x.dst, .int .u64 x.num, .int .i64 x.node, .int .u64 x.life, .int .i64 x.n, .int .i64 x.op, .string x.key, .string x.val, .bool x.has, .int .i64 x.code] 27) := Blk.of HA.out (HY_u6.out.block _ HSZ.out)
  clear z0 z1 z2 z3 z4 z5 z6 z7 z8 z9 z10 z11
  have z0 : u6.cell? ⟨w.heap.size, 0, none⟩ = some (.int .i64 x.kind) := HA_u6.out.cell 0
  have z1 : u6.cell? ⟨w.heap.size, 1, none⟩ = some (.int .i64 x.frm) := HA_u6.out.cell 1
  have z2 : u6.cell? ⟨w.heap.size, 2, none⟩ = some (.int .i64 x.dst) := HA_u6.out.cell 2
  have z3 : u6.cell? ⟨w.heap.size, 3, none⟩ = some (.int .u64 x.num) := HA_u6.out.cell 3
  have z4 : u6.cell? ⟨w.heap.size, 4, none⟩ = some (.int .i64 x.node) := HA_u6.out.cell 4
  have z5 : u6.cell? ⟨w.heap.size, 5, none⟩ = some (.int .u64 x.life) := HA_u6.out.cell 5
  have z6 : u6.cell? ⟨w.heap.size, 6, none⟩ = some (.int .i64 x.n) := HA_u6.out.cell 6
  have z7 : u6.cell? ⟨w.heap.size, 7, none⟩ = some (.int .i64 x.op) := HA_u6.out.cell 7
  have z8 : u6.cell? ⟨w.heap.size, 8, none⟩ = some (.string x.key) := HA_u6.out.cell 8
  have z9 : u6.cell? ⟨w.heap.size, 9, none⟩ = some (.string x.val) := HA_u6.out.cell 9
  have z11 : u6.cell? ⟨w.heap.size, 11, none⟩ = some (.int .i64 x.code) := HA_u6.out.cell 11
  have z10 : u6.cell? ⟨w.heap.size, 10, none⟩ = some (.bool false) := by rw [← HH.out]; exact HA_u6.out.cell 10
  have HEQ : Hid (L6 = msgB x) := by show _ = _; rw [HM.out, HL6.out, HL5.out, HL4.out, HL3.out, HL2.out, HL1.out]
  go_wp2
  go_ret
  refine ⟨g6, c6, ?_, ?_, HY.out.trans (HY_u6.out.mono HY.out.size)⟩
  · rw [HEQ.out]; rfl
  · have := HO6.out.mono HY.out.size
    rw [HEQ.out] at this
    exact this
set_option maxRecDepth 100000 in
set_option maxHeartbeats 8000000 in
theorem lawB4_any (x : MsgQ) (w : World) (hr : RightM x) (hw : x.Wf) (hk : x.kind = 4) (hh : x.has = false) : Calls Try.prog 12 #[.agg #[.int .i64 x.kind, .int .i64 x.frm, .int .i64 x.dst, .int .u64 x.num, .int .i64 x.node, .int .u64 x.life, .int .i64 x.n, .int .i64 x.op, .string x.key, .string x.val, .bool x.has, .int .i64 x.code]] w (Gives w (msgB x)) := by
  have hl : hasLifeB x.kind = false := decide_eq_false (by omega)
  have hn : hasNB x.kind = true := decide_eq_true (by omega)
  have hc : hasCodeB x.kind = true := decide_eq_true (by omega)
  obtain ⟨bk, wk, qk⟩ := u8_ex (n := x.kind) (by have := hr.kind; omega) (by have := hr.kind; omega)
  obtain ⟨bf, wf, qf⟩ := u8_ex (n := x.frm) (by have := hr.frm; omega) (by have := hr.frm; omega)
  obtain ⟨bd, wd, qd⟩ := u8_ex (n := x.dst) (by have := hr.dst; omega) (by have := hr.dst; omega)
  have e2 : (x.kind == 2) = false := by exact beq_eq_false_iff_ne.2 (by omega)
  have e3 : (x.kind == 3) = false := by exact beq_eq_false_iff_ne.2 (by omega)
  have e4 : (x.kind == 4) = true := by simp [hk]
  have e5 : (x.kind == 5) = false := by exact beq_eq_false_iff_ne.2 (by omega)
  have e6 : (x.kind == 6) = false := by exact beq_eq_false_iff_ne.2 (by omega)
  have HM : Hid (msgB x = (join (join (join (join [bk, bf, bd] (tidB x.num x.node)) (intB x.n)) (join (intB x.code) (enc (flagN x.has)))) (textB x.val))) := by
    show _ = _
    unfold msgB bodyB lifeB nB doB codeB didB join
    rw [hl, hn, hc, qk, qf, qd]
    simp [hk, List.append_assoc]
  have HTB : Hid (0 ≤ x.num ∧ x.num < 18446744073709551616) := hw.2.2.2.1
  have HLB : Hid (0 ≤ x.life ∧ x.life < 18446744073709551616) := hw.2.2.2.2.2.1
  have HNB : Hid (0 ≤ x.n ∧ x.n < 18446744073709551616) := by have := hr.n; show _ ∧ _; omega
  have wn : IntKind.u64.wrap x.n = x.n := by rw [IntKind.wrap_u64]; have := hr.n; omega
  have HVS : Hid (x.val.size ≤ 48) := by show _ ≤ _; rcases hr.val with e | e <;> omega
  obtain ⟨bc, wc, qc⟩ := u8_ex (n := x.code) (by have := hr.code; omega) (by have := hr.code; omega)
  have HQC : Hid (intB x.code = [bc]) := qc
  clear qc
  have HH : Hid (x.has = false) := hh
  clear hr hw hk hh qk qf qd hl hn hc
  have HA : Hid (Blk (w.alloc (.cells #[.int .i64 x.kind, .int .i64 x.frm, .int .i64 x.dst, .int .u64 x.num, .int .i64 x.node, .int .u64 x.life, .int .i64 x.n, .int .i64 x.op, .string x.key, .string x.val, .bool x.has, .int .i64 x.code] 27)) w.heap.size #[.int .i64 x.kind, .int .i64 x.frm, .int .i64 x.dst, .int .u64 x.num, .int .i64 x.node, .int .u64 x.life, .int .i64 x.n, .int .i64 x.op, .string x.key, .string x.val, .bool x.has, .int .i64 x.code] 27) := Blk.new _ _ _
  have HY : Hid (Below w.heap.size w (w.alloc (.cells #[.int .i64 x.kind, .int .i64 x.frm, .int .i64 x.dst, .int .u64 x.num, .int .i64 x.node, .int .u64 x.life, .int .i64 x.n, .int .i64 x.op, .string x.key, .string x.val, .bool x.has, .int .i64 x.code] 27))) := (Below.refl _ _).alloc (Nat.le_refl _) _
  go_enter Try.func12, Try.ntmps12
  go_upto_region 1 with fail
  generalize w.alloc (.cells #[.int .i64 x.kind, .int .i64 x.frm, .int .i64 x.dst, .int .u64 x.num, .int .i64 x.node, .int .u64 x.life, .int .i64 x.n, .int .i64 x.op, .string x.key, .string x.val, .bool x.has, .int .i64 x.code] 27) = w0 at *
  have z0 : w0.cell? ⟨w.heap.size, 0, none⟩ = some (.int .i64 x.kind) := HA.out.cell 0
  have z1 : w0.cell? ⟨w.heap.size, 1, none⟩ = some (.int .i64 x.frm) := HA.out.cell 1
  have z2 : w0.cell? ⟨w.heap.size, 2, none⟩ = some (.int .i64 x.dst) := HA.out.cell 2
  have z3 : w0.cell? ⟨w.heap.size, 3, none⟩ = some (.int .u64 x.num) := HA.out.cell 3
  have z4 : w0.cell? ⟨w.heap.size, 4, none⟩ = some (.int .i64 x.node) := HA.out.cell 4
  have z5 : w0.cell? ⟨w.heap.size, 5, none⟩ = some (.int .u64 x.life) := HA.out.cell 5
  have z6 : w0.cell? ⟨w.heap.size, 6, none⟩ = some (.int .i64 x.n) := HA.out.cell 6
  have z7 : w0.cell? ⟨w.heap.size, 7, none⟩ = some (.int .i64 x.op) := HA.out.cell 7
  have z8 : w0.cell? ⟨w.heap.size, 8, none⟩ = some (.string x.key) := HA.out.cell 8
  have z9 : w0.cell? ⟨w.heap.size, 9, none⟩ = some (.string x.val) := HA.out.cell 9
  have z11 : w0.cell? ⟨w.heap.size, 11, none⟩ = some (.int .i64 x.code) := HA.out.cell 11
  have z10 : w0.cell? ⟨w.heap.size, 10, none⟩ = some (.bool false) := by rw [← HH.out]; exact HA.out.cell 10
  have HY_w0 : Hid (Below w0.heap.size w0 w0) := Below.refl _ _
  have HSZ : Hid (w.heap.size < w0.heap.size) := HA.out.lt
  have HSR : Hid (Src (w0.alloc (.cells #[.int .u8 (bk.toNat : Int), .int .u8 (bf.toNat : Int), .int .u8 (bd.toNat : Int)] 5)) (.slice (some ⟨w0.heap.size, 0, none⟩) 3 3) [bk, bf, bd]) := src_new w0 [bk, bf, bd] (by simp)
  have zA3 : (w0.alloc (.cells #[.int .u8 (bk.toNat : Int), .int .u8 (bf.toNat : Int), .int .u8 (bd.toNat : Int)] 5)).cell? ⟨w.heap.size, 3, none⟩ = some (.int .u64 x.num) := (HA.out.alloc _).cell 3
  have zA4 : (w0.alloc (.cells #[.int .u8 (bk.toNat : Int), .int .u8 (bf.toNat : Int), .int .u8 (bd.toNat : Int)] 5)).cell? ⟨w.heap.size, 4, none⟩ = some (.int .i64 x.node) := (HA.out.alloc _).cell 4
  have HY_w1 : Hid (Below w0.heap.size w0 (w0.alloc (.cells #[.int .u8 (bk.toNat : Int), .int .u8 (bf.toNat : Int), .int .u8 (bd.toNat : Int)] 5))) := (Below.refl _ _).alloc (Nat.le_refl _) _
  go_wp2_with fail
  generalize (w0.alloc (.cells #[.int .u8 (bk.toNat : Int), .int .u8 (bf.toNat : Int), .int .u8 (bd.toNat : Int)] 5)) = w1 at *
  clear wk wf wd zA3 zA4
  refine (tidM_any (some ⟨w0.heap.size, 0, none⟩) 3 3 [bk, bf, bd] x.num x.node _ HSR.out HTB.out (by simp)).mono ?_
  clear z0 z1 z2 z3 z4 z5 z6 z7 z8 z9 z10 z11
  rintro e u1 ⟨g1, c1, rfl, ho, y⟩
  have HY_u1 : Hid (Below w0.heap.size w0 u1) := HY_w1.out.trans (y.mono HY_w1.out.size)
  have ho := ho.mono HY_w1.out.size
  clear y
  obtain ⟨L1, hL⟩ : ∃ y, y = join [bk, bf, bd] (tidB x.num x.node) := ⟨_, rfl⟩
  rw [← hL] at ho ⊢
  have HL1 : Hid (L1 = join [bk, bf, bd] (tidB x.num x.node)) := hL
  clear hL
  have HB1 : Hid (L1.length ≤ 200) := catB HL1.out (by simp) (tidB_len _ _)
  have HO1 : Hid (Own u1 w0.heap.size (.slice (some ⟨g1, 0, none⟩) L1.length c1) L1) := ho
  clear ho
  have HA_u1 : Hid (Blk u1 w.heap.size #[.int .i64 x.kind, .int .i64 x.frm, .int .i64 x.dst, .int .u64 x.num, .int .i64 x.node, .int .u64 x.life, .int .i64 x.n, .int .i64 x.op, .string x.key, .string x.val, .bool x.has, .int .i64 x.code] 27) := Blk.of HA.out (HY_u1.out.block _ HSZ.out)
  have z0 : u1.cell? ⟨w.heap.size, 0, none⟩ = some (.int .i64 x.kind) := HA_u1.out.cell 0
  have z1 : u1.cell? ⟨w.heap.size, 1, none⟩ = some (.int .i64 x.frm) := HA_u1.out.cell 1
  have z2 : u1.cell? ⟨w.heap.size, 2, none⟩ = some (.int .i64 x.dst) := HA_u1.out.cell 2
  have z3 : u1.cell? ⟨w.heap.size, 3, none⟩ = some (.int .u64 x.num) := HA_u1.out.cell 3
  have z4 : u1.cell? ⟨w.heap.size, 4, none⟩ = some (.int .i64 x.node) := HA_u1.out.cell 4
  have z5 : u1.cell? ⟨w.heap.size, 5, none⟩ = some (.int .u64 x.life) := HA_u1.out.cell 5
  have z6 : u1.cell? ⟨w.heap.size, 6, none⟩ = some (.int .i64 x.n) := HA_u1.out.cell 6
  have z7 : u1.cell? ⟨w.heap.size, 7, none⟩ = some (.int .i64 x.op) := HA_u1.out.cell 7
  have z8 : u1.cell? ⟨w.heap.size, 8, none⟩ = some (.string x.key) := HA_u1.out.cell 8
  have z9 : u1.cell? ⟨w.heap.size, 9, none⟩ = some (.string x.val) := HA_u1.out.cell 9
  have z11 : u1.cell? ⟨w.heap.size, 11, none⟩ = some (.int .i64 x.code) := HA_u1.out.cell 11
  have z10 : u1.cell? ⟨w.heap.size, 10, none⟩ = some (.bool false) := by rw [← HH.out]; exact HA_u1.out.cell 10
  go_wp2_with fail
  refine (putM_any (some ⟨g1, 0, none⟩) L1.length c1 L1 x.n _ HO1.out.src HNB.out (by have := HB1.out; omega)).mono ?_
  rintro e u2 ⟨g2, c2, rfl, ho, y⟩
  have HY_u2 : Hid (Below w0.heap.size w0 u2) := HY_u1.out.trans (y.mono HY_u1.out.size)
  have ho := ho.mono HY_u1.out.size
  clear y
  obtain ⟨L2, hL⟩ : ∃ y, y = join L1 (intB x.n) := ⟨_, rfl⟩
  rw [← hL] at ho ⊢
  have HL2 : Hid (L2 = join L1 (intB x.n)) := hL
  clear hL
  have HB2 : Hid (L2.length ≤ 300) := catB HL2.out HB1.out (intB_len _)
  have HO2 : Hid (Own u2 w0.heap.size (.slice (some ⟨g2, 0, none⟩) L2.length c2) L2) := ho
  clear ho HO1
  have HA_u2 : Hid (Blk u2 w.heap.size #[.int .i64 x.kind, .int .i64 x.frm, .int .i64 x.dst, .int .u64 x.num, .int .i64 x.node, .int .u64 x.life, .int .i64 x.n, .int .i64 x.op, .string x.key, .string x.val, .bool x.has, .int .i64 x.code] 27) := Blk.of HA.out (HY_u2.out.block _ HSZ.out)
  clear z0 z1 z2 z3 z4 z5 z6 z7 z8 z9 z10 z11
  have z0 : u2.cell? ⟨w.heap.size, 0, none⟩ = some (.int .i64 x.kind) := HA_u2.out.cell 0
  have z1 : u2.cell? ⟨w.heap.size, 1, none⟩ = some (.int .i64 x.frm) := HA_u2.out.cell 1
  have z2 : u2.cell? ⟨w.heap.size, 2, none⟩ = some (.int .i64 x.dst) := HA_u2.out.cell 2
  have z3 : u2.cell? ⟨w.heap.size, 3, none⟩ = some (.int .u64 x.num) := HA_u2.out.cell 3
  have z4 : u2.cell? ⟨w.heap.size, 4, none⟩ = some (.int .i64 x.node) := HA_u2.out.cell 4
  have z5 : u2.cell? ⟨w.heap.size, 5, none⟩ = some (.int .u64 x.life) := HA_u2.out.cell 5
  have z6 : u2.cell? ⟨w.heap.size, 6, none⟩ = some (.int .i64 x.n) := HA_u2.out.cell 6
  have z7 : u2.cell? ⟨w.heap.size, 7, none⟩ = some (.int .i64 x.op) := HA_u2.out.cell 7
  have z8 : u2.cell? ⟨w.heap.size, 8, none⟩ = some (.string x.key) := HA_u2.out.cell 8
  have z9 : u2.cell? ⟨w.heap.size, 9, none⟩ = some (.string x.val) := HA_u2.out.cell 9
  have z11 : u2.cell? ⟨w.heap.size, 11, none⟩ = some (.int .i64 x.code) := HA_u2.out.cell 11
  have z10 : u2.cell? ⟨w.heap.size, 10, none⟩ = some (.bool false) := by rw [← HH.out]; exact HA_u2.out.cell 10
  have HS2 : Hid (Src (u2.alloc (.cells #[.int .u8 (bc.toNat : Int), .int .u8 0] 5)) (.slice (some ⟨u2.heap.size, 0, none⟩) 2 2) [bc, 0]) := src_new u2 [bc, 0] (by simp)
  have HO2 : Hid (Own (u2.alloc (.cells #[.int .u8 (bc.toNat : Int), .int .u8 0] 5)) w0.heap.size (.slice (some ⟨g2, 0, none⟩) L2.length c2) L2) := HO2.out.alloc _
  have HY2 : Hid (Below w0.heap.size w0 (u2.alloc (.cells #[.int .u8 (bc.toNat : Int), .int .u8 0] 5))) := HY_u2.out.alloc HY_u2.out.size _
  have hHL : L2.length + [bc, 0].length < 1099511627776 := by have := HB2.out; simp; omega
  go_wp2_with (first | (at_builtin; refine wpList_join _ rfl _ _ rfl w0.heap.size _ L2 [bc, 0] HO2.out rfl _ HS2.out rfl hHL HY2.out.size ?_))
  intro v u3 ho hg2 _
  obtain ⟨g3, c3, hv, _⟩ := Own.form ho (show join L2 [bc, 0] ≠ [] by unfold join; simp)
  subst hv
  have hsn : [bc, 0] = join (intB x.code) (enc (flagN x.has)) := by rw [HQC.out, HH.out]; rfl
  rw [hsn] at ho ⊢
  have HY_u3 : Hid (Below w0.heap.size w0 u3) := HY2.out.grown hg2 HY2.out.size (fun k hk => (HO2.out.lt k hk).1)
  clear hg2 hsn hHL wc HO2 HS2
  obtain ⟨L3, hL⟩ : ∃ y, y = join L2 (join (intB x.code) (enc (flagN x.has))) := ⟨_, rfl⟩
  rw [← hL] at ho ⊢
  have HL3 : Hid (L3 = join L2 (join (intB x.code) (enc (flagN x.has)))) := hL
  clear hL
  have HB3 : Hid (L3.length ≤ 400) := catB HL3.out HB2.out ((by rw [join_length, HQC.out, HH.out]; show 1 + (enc (flagN false)).length ≤ 100; decide))
  have HO3 : Hid (Own u3 w0.heap.size (.slice (some ⟨g3, 0, none⟩) L3.length c3) L3) := ho
  clear ho HO2
  have HA_u3 : Hid (Blk u3 w.heap.size #[.int .i64 x.kind, .int .i64 x.frm, .int .i64 x.dst, .int .u64 x.num, .int .i64 x.node, .int .u64 x.life, .int .i64 x.n, .int .i64 x.op, .string x.key, .string x.val, .bool x.has, .int .i64 x.code] 27) := Blk.of HA.out (HY_u3.out.block _ HSZ.out)
  clear z0 z1 z2 z3 z4 z5 z6 z7 z8 z9 z10 z11
  have z0 : u3.cell? ⟨w.heap.size, 0, none⟩ = some (.int .i64 x.kind) := HA_u3.out.cell 0
  have z1 : u3.cell? ⟨w.heap.size, 1, none⟩ = some (.int .i64 x.frm) := HA_u3.out.cell 1
  have z2 : u3.cell? ⟨w.heap.size, 2, none⟩ = some (.int .i64 x.dst) := HA_u3.out.cell 2
  have z3 : u3.cell? ⟨w.heap.size, 3, none⟩ = some (.int .u64 x.num) := HA_u3.out.cell 3
  have z4 : u3.cell? ⟨w.heap.size, 4, none⟩ = some (.int .i64 x.node) := HA_u3.out.cell 4
  have z5 : u3.cell? ⟨w.heap.size, 5, none⟩ = some (.int .u64 x.life) := HA_u3.out.cell 5
  have z6 : u3.cell? ⟨w.heap.size, 6, none⟩ = some (.int .i64 x.n) := HA_u3.out.cell 6
  have z7 : u3.cell? ⟨w.heap.size, 7, none⟩ = some (.int .i64 x.op) := HA_u3.out.cell 7
  have z8 : u3.cell? ⟨w.heap.size, 8, none⟩ = some (.string x.key) := HA_u3.out.cell 8
  have z9 : u3.cell? ⟨w.heap.size, 9, none⟩ = some (.string x.val) := HA_u3.out.cell 9
  have z11 : u3.cell? ⟨w.heap.size, 11, none⟩ = some (.int .i64 x.code) := HA_u3.out.cell 11
  have z10 : u3.cell? ⟨w.heap.size, 10, none⟩ = some (.bool false) := by rw [← HH.out]; exact HA_u3.out.cell 10
  go_wp2_with fail
  refine (textM_any (some ⟨g3, 0, none⟩) L3.length c3 L3 x.val _ HO3.out.src (by have := HVS.out; omega) (by have := HB3.out; omega)).mono ?_
  rintro e u4 ⟨g4, c4, rfl, ho, y⟩
  have HY_u4 : Hid (Below w0.heap.size w0 u4) := HY_u3.out.trans (y.mono HY_u3.out.size)
  have ho := ho.mono HY_u3.out.size
  clear y
  obtain ⟨L4, hL⟩ : ∃ y, y = join L3 (textB x.val) := ⟨_, rfl⟩
  rw [← hL] at ho ⊢
  have HL4 : Hid (L4 = join L3 (textB x.val)) := hL
  clear hL
  have HB4 : Hid (L4.length ≤ 500) := catB HL4.out HB3.out (textB_len HVS.out)
  have HO4 : Hid (Own u4 w0.heap.size (.slice (some ⟨g4, 0, none⟩) L4.length c4) L4) := ho
  clear ho HO3
  have HA_u4 : Hid (Blk u4 w.heap.size #[.int .i64 x.kind, .int .i64 x.frm, .int .i64 x.dst, .int .u64 x.num, .int .i64 x.node, .int .u64 x.life, .int .i64 x.n, .int .i64 x.op, .string x.key, .string x.val, .bool x.has, .int .i64 x.code] 27) := Blk.of HA.out (HY_u4.out.block _ HSZ.out)
  clear z0 z1 z2 z3 z4 z5 z6 z7 z8 z9 z10 z11
  have z0 : u4.cell? ⟨w.heap.size, 0, none⟩ = some (.int .i64 x.kind) := HA_u4.out.cell 0
  have z1 : u4.cell? ⟨w.heap.size, 1, none⟩ = some (.int .i64 x.frm) := HA_u4.out.cell 1
  have z2 : u4.cell? ⟨w.heap.size, 2, none⟩ = some (.int .i64 x.dst) := HA_u4.out.cell 2
  have z3 : u4.cell? ⟨w.heap.size, 3, none⟩ = some (.int .u64 x.num) := HA_u4.out.cell 3
  have z4 : u4.cell? ⟨w.heap.size, 4, none⟩ = some (.int .i64 x.node) := HA_u4.out.cell 4
  have z5 : u4.cell? ⟨w.heap.size, 5, none⟩ = some (.int .u64 x.life) := HA_u4.out.cell 5
  have z6 : u4.cell? ⟨w.heap.size, 6, none⟩ = some (.int .i64 x.n) := HA_u4.out.cell 6
  have z7 : u4.cell? ⟨w.heap.size, 7, none⟩ = some (.int .i64 x.op) := HA_u4.out.cell 7
  have z8 : u4.cell? ⟨w.heap.size, 8, none⟩ = some (.string x.key) := HA_u4.out.cell 8
  have z9 : u4.cell? ⟨w.heap.size, 9, none⟩ = some (.string x.val) := HA_u4.out.cell 9
  have z11 : u4.cell? ⟨w.heap.size, 11, none⟩ = some (.int .i64 x.code) := HA_u4.out.cell 11
  have z10 : u4.cell? ⟨w.heap.size, 10, none⟩ = some (.bool false) := by rw [← HH.out]; exact HA_u4.out.cell 10
  have HEQ : Hid (L4 = msgB x) := by show _ = _; rw [HM.out, HL4.out, HL3.out, HL2.out, HL1.out]
  go_wp2
  go_ret
  refine ⟨g4, c4, ?_, ?_, HY.out.trans (HY_u4.out.mono HY.out.size)⟩
  · rw [HEQ.out]; rfl
  · have := HO4.out.mono HY.out.size
    rw [HEQ.out] at this
    exact this
set_option maxRecDepth 100000 in
set_option maxHeartbeats 8000000 in
theorem lawB5_any (x : MsgQ) (w : World) (hr : RightM x) (hw : x.Wf) (hk : x.kind = 5) (hh : x.has = false) : Calls Try.prog 12 #[.agg #[.int .i64 x.kind, .int .i64 x.frm, .int .i64 x.dst, .int .u64 x.num, .int .i64 x.node, .int .u64 x.life, .int .i64 x.n, .int .i64 x.op, .string x.key, .string x.val, .bool x.has, .int .i64 x.code]] w (Gives w (msgB x)) := by
  have hl : hasLifeB x.kind = true := decide_eq_true (by omega)
  have hn : hasNB x.kind = true := decide_eq_true (by omega)
  have hc : hasCodeB x.kind = false := decide_eq_false (by omega)
  obtain ⟨bk, wk, qk⟩ := u8_ex (n := x.kind) (by have := hr.kind; omega) (by have := hr.kind; omega)
  obtain ⟨bf, wf, qf⟩ := u8_ex (n := x.frm) (by have := hr.frm; omega) (by have := hr.frm; omega)
  obtain ⟨bd, wd, qd⟩ := u8_ex (n := x.dst) (by have := hr.dst; omega) (by have := hr.dst; omega)
  have e2 : (x.kind == 2) = false := by exact beq_eq_false_iff_ne.2 (by omega)
  have e3 : (x.kind == 3) = false := by exact beq_eq_false_iff_ne.2 (by omega)
  have e4 : (x.kind == 4) = false := by exact beq_eq_false_iff_ne.2 (by omega)
  have e5 : (x.kind == 5) = true := by simp [hk]
  have e6 : (x.kind == 6) = false := by exact beq_eq_false_iff_ne.2 (by omega)
  have HM : Hid (msgB x = (join (join (join [bk, bf, bd] (tidB x.num x.node)) (intB x.life)) (intB x.n))) := by
    show _ = _
    unfold msgB bodyB lifeB nB doB codeB didB join
    rw [hl, hn, hc, qk, qf, qd]
    simp [hk, List.append_assoc]
  have HTB : Hid (0 ≤ x.num ∧ x.num < 18446744073709551616) := hw.2.2.2.1
  have HLB : Hid (0 ≤ x.life ∧ x.life < 18446744073709551616) := hw.2.2.2.2.2.1
  have HNB : Hid (0 ≤ x.n ∧ x.n < 18446744073709551616) := by have := hr.n; show _ ∧ _; omega
  have wn : IntKind.u64.wrap x.n = x.n := by rw [IntKind.wrap_u64]; have := hr.n; omega
  have HVS : Hid (x.val.size ≤ 48) := by show _ ≤ _; rcases hr.val with e | e <;> omega
  have HH : Hid (x.has = false) := hh
  clear hr hw hk hh qk qf qd hl hn hc
  have HA : Hid (Blk (w.alloc (.cells #[.int .i64 x.kind, .int .i64 x.frm, .int .i64 x.dst, .int .u64 x.num, .int .i64 x.node, .int .u64 x.life, .int .i64 x.n, .int .i64 x.op, .string x.key, .string x.val, .bool x.has, .int .i64 x.code] 27)) w.heap.size #[.int .i64 x.kind, .int .i64 x.frm, .int .i64 x.dst, .int .u64 x.num, .int .i64 x.node, .int .u64 x.life, .int .i64 x.n, .int .i64 x.op, .string x.key, .string x.val, .bool x.has, .int .i64 x.code] 27) := Blk.new _ _ _
  have HY : Hid (Below w.heap.size w (w.alloc (.cells #[.int .i64 x.kind, .int .i64 x.frm, .int .i64 x.dst, .int .u64 x.num, .int .i64 x.node, .int .u64 x.life, .int .i64 x.n, .int .i64 x.op, .string x.key, .string x.val, .bool x.has, .int .i64 x.code] 27))) := (Below.refl _ _).alloc (Nat.le_refl _) _
  go_enter Try.func12, Try.ntmps12
  go_upto_region 1 with fail
  generalize w.alloc (.cells #[.int .i64 x.kind, .int .i64 x.frm, .int .i64 x.dst, .int .u64 x.num, .int .i64 x.node, .int .u64 x.life, .int .i64 x.n, .int .i64 x.op, .string x.key, .string x.val, .bool x.has, .int .i64 x.code] 27) = w0 at *
  have z0 : w0.cell? ⟨w.heap.size, 0, none⟩ = some (.int .i64 x.kind) := HA.out.cell 0
  have z1 : w0.cell? ⟨w.heap.size, 1, none⟩ = some (.int .i64 x.frm) := HA.out.cell 1
  have z2 : w0.cell? ⟨w.heap.size, 2, none⟩ = some (.int .i64 x.dst) := HA.out.cell 2
  have z3 : w0.cell? ⟨w.heap.size, 3, none⟩ = some (.int .u64 x.num) := HA.out.cell 3
  have z4 : w0.cell? ⟨w.heap.size, 4, none⟩ = some (.int .i64 x.node) := HA.out.cell 4
  have z5 : w0.cell? ⟨w.heap.size, 5, none⟩ = some (.int .u64 x.life) := HA.out.cell 5
  have z6 : w0.cell? ⟨w.heap.size, 6, none⟩ = some (.int .i64 x.n) := HA.out.cell 6
  have z7 : w0.cell? ⟨w.heap.size, 7, none⟩ = some (.int .i64 x.op) := HA.out.cell 7
  have z8 : w0.cell? ⟨w.heap.size, 8, none⟩ = some (.string x.key) := HA.out.cell 8
  have z9 : w0.cell? ⟨w.heap.size, 9, none⟩ = some (.string x.val) := HA.out.cell 9
  have z11 : w0.cell? ⟨w.heap.size, 11, none⟩ = some (.int .i64 x.code) := HA.out.cell 11
  have z10 : w0.cell? ⟨w.heap.size, 10, none⟩ = some (.bool false) := by rw [← HH.out]; exact HA.out.cell 10
  have HY_w0 : Hid (Below w0.heap.size w0 w0) := Below.refl _ _
  have HSZ : Hid (w.heap.size < w0.heap.size) := HA.out.lt
  have HSR : Hid (Src (w0.alloc (.cells #[.int .u8 (bk.toNat : Int), .int .u8 (bf.toNat : Int), .int .u8 (bd.toNat : Int)] 5)) (.slice (some ⟨w0.heap.size, 0, none⟩) 3 3) [bk, bf, bd]) := src_new w0 [bk, bf, bd] (by simp)
  have zA3 : (w0.alloc (.cells #[.int .u8 (bk.toNat : Int), .int .u8 (bf.toNat : Int), .int .u8 (bd.toNat : Int)] 5)).cell? ⟨w.heap.size, 3, none⟩ = some (.int .u64 x.num) := (HA.out.alloc _).cell 3
  have zA4 : (w0.alloc (.cells #[.int .u8 (bk.toNat : Int), .int .u8 (bf.toNat : Int), .int .u8 (bd.toNat : Int)] 5)).cell? ⟨w.heap.size, 4, none⟩ = some (.int .i64 x.node) := (HA.out.alloc _).cell 4
  have HY_w1 : Hid (Below w0.heap.size w0 (w0.alloc (.cells #[.int .u8 (bk.toNat : Int), .int .u8 (bf.toNat : Int), .int .u8 (bd.toNat : Int)] 5))) := (Below.refl _ _).alloc (Nat.le_refl _) _
  go_wp2_with fail
  generalize (w0.alloc (.cells #[.int .u8 (bk.toNat : Int), .int .u8 (bf.toNat : Int), .int .u8 (bd.toNat : Int)] 5)) = w1 at *
  clear wk wf wd zA3 zA4
  refine (tidM_any (some ⟨w0.heap.size, 0, none⟩) 3 3 [bk, bf, bd] x.num x.node _ HSR.out HTB.out (by simp)).mono ?_
  clear z0 z1 z2 z3 z4 z5 z6 z7 z8 z9 z10 z11
  rintro e u1 ⟨g1, c1, rfl, ho, y⟩
  have HY_u1 : Hid (Below w0.heap.size w0 u1) := HY_w1.out.trans (y.mono HY_w1.out.size)
  have ho := ho.mono HY_w1.out.size
  clear y
  obtain ⟨L1, hL⟩ : ∃ y, y = join [bk, bf, bd] (tidB x.num x.node) := ⟨_, rfl⟩
  rw [← hL] at ho ⊢
  have HL1 : Hid (L1 = join [bk, bf, bd] (tidB x.num x.node)) := hL
  clear hL
  have HB1 : Hid (L1.length ≤ 200) := catB HL1.out (by simp) (tidB_len _ _)
  have HO1 : Hid (Own u1 w0.heap.size (.slice (some ⟨g1, 0, none⟩) L1.length c1) L1) := ho
  clear ho
  have HA_u1 : Hid (Blk u1 w.heap.size #[.int .i64 x.kind, .int .i64 x.frm, .int .i64 x.dst, .int .u64 x.num, .int .i64 x.node, .int .u64 x.life, .int .i64 x.n, .int .i64 x.op, .string x.key, .string x.val, .bool x.has, .int .i64 x.code] 27) := Blk.of HA.out (HY_u1.out.block _ HSZ.out)
  have z0 : u1.cell? ⟨w.heap.size, 0, none⟩ = some (.int .i64 x.kind) := HA_u1.out.cell 0
  have z1 : u1.cell? ⟨w.heap.size, 1, none⟩ = some (.int .i64 x.frm) := HA_u1.out.cell 1
  have z2 : u1.cell? ⟨w.heap.size, 2, none⟩ = some (.int .i64 x.dst) := HA_u1.out.cell 2
  have z3 : u1.cell? ⟨w.heap.size, 3, none⟩ = some (.int .u64 x.num) := HA_u1.out.cell 3
  have z4 : u1.cell? ⟨w.heap.size, 4, none⟩ = some (.int .i64 x.node) := HA_u1.out.cell 4
  have z5 : u1.cell? ⟨w.heap.size, 5, none⟩ = some (.int .u64 x.life) := HA_u1.out.cell 5
  have z6 : u1.cell? ⟨w.heap.size, 6, none⟩ = some (.int .i64 x.n) := HA_u1.out.cell 6
  have z7 : u1.cell? ⟨w.heap.size, 7, none⟩ = some (.int .i64 x.op) := HA_u1.out.cell 7
  have z8 : u1.cell? ⟨w.heap.size, 8, none⟩ = some (.string x.key) := HA_u1.out.cell 8
  have z9 : u1.cell? ⟨w.heap.size, 9, none⟩ = some (.string x.val) := HA_u1.out.cell 9
  have z11 : u1.cell? ⟨w.heap.size, 11, none⟩ = some (.int .i64 x.code) := HA_u1.out.cell 11
  have z10 : u1.cell? ⟨w.heap.size, 10, none⟩ = some (.bool false) := by rw [← HH.out]; exact HA_u1.out.cell 10
  go_wp2_with fail
  refine (putM_any (some ⟨g1, 0, none⟩) L1.length c1 L1 x.life _ HO1.out.src HLB.out (by have := HB1.out; omega)).mono ?_
  rintro e u2 ⟨g2, c2, rfl, ho, y⟩
  have HY_u2 : Hid (Below w0.heap.size w0 u2) := HY_u1.out.trans (y.mono HY_u1.out.size)
  have ho := ho.mono HY_u1.out.size
  clear y
  obtain ⟨L2, hL⟩ : ∃ y, y = join L1 (intB x.life) := ⟨_, rfl⟩
  rw [← hL] at ho ⊢
  have HL2 : Hid (L2 = join L1 (intB x.life)) := hL
  clear hL
  have HB2 : Hid (L2.length ≤ 300) := catB HL2.out HB1.out (intB_len _)
  have HO2 : Hid (Own u2 w0.heap.size (.slice (some ⟨g2, 0, none⟩) L2.length c2) L2) := ho
  clear ho HO1
  have HA_u2 : Hid (Blk u2 w.heap.size #[.int .i64 x.kind, .int .i64 x.frm, .int .i64 x.dst, .int .u64 x.num, .int .i64 x.node, .int .u64 x.life, .int .i64 x.n, .int .i64 x.op, .string x.key, .string x.val, .bool x.has, .int .i64 x.code] 27) := Blk.of HA.out (HY_u2.out.block _ HSZ.out)
  clear z0 z1 z2 z3 z4 z5 z6 z7 z8 z9 z10 z11
  have z0 : u2.cell? ⟨w.heap.size, 0, none⟩ = some (.int .i64 x.kind) := HA_u2.out.cell 0
  have z1 : u2.cell? ⟨w.heap.size, 1, none⟩ = some (.int .i64 x.frm) := HA_u2.out.cell 1
  have z2 : u2.cell? ⟨w.heap.size, 2, none⟩ = some (.int .i64 x.dst) := HA_u2.out.cell 2
  have z3 : u2.cell? ⟨w.heap.size, 3, none⟩ = some (.int .u64 x.num) := HA_u2.out.cell 3
  have z4 : u2.cell? ⟨w.heap.size, 4, none⟩ = some (.int .i64 x.node) := HA_u2.out.cell 4
  have z5 : u2.cell? ⟨w.heap.size, 5, none⟩ = some (.int .u64 x.life) := HA_u2.out.cell 5
  have z6 : u2.cell? ⟨w.heap.size, 6, none⟩ = some (.int .i64 x.n) := HA_u2.out.cell 6
  have z7 : u2.cell? ⟨w.heap.size, 7, none⟩ = some (.int .i64 x.op) := HA_u2.out.cell 7
  have z8 : u2.cell? ⟨w.heap.size, 8, none⟩ = some (.string x.key) := HA_u2.out.cell 8
  have z9 : u2.cell? ⟨w.heap.size, 9, none⟩ = some (.string x.val) := HA_u2.out.cell 9
  have z11 : u2.cell? ⟨w.heap.size, 11, none⟩ = some (.int .i64 x.code) := HA_u2.out.cell 11
  have z10 : u2.cell? ⟨w.heap.size, 10, none⟩ = some (.bool false) := by rw [← HH.out]; exact HA_u2.out.cell 10
  go_wp2_with fail
  refine (putM_any (some ⟨g2, 0, none⟩) L2.length c2 L2 x.n _ HO2.out.src HNB.out (by have := HB2.out; omega)).mono ?_
  rintro e u3 ⟨g3, c3, rfl, ho, y⟩
  have HY_u3 : Hid (Below w0.heap.size w0 u3) := HY_u2.out.trans (y.mono HY_u2.out.size)
  have ho := ho.mono HY_u2.out.size
  clear y
  obtain ⟨L3, hL⟩ : ∃ y, y = join L2 (intB x.n) := ⟨_, rfl⟩
  rw [← hL] at ho ⊢
  have HL3 : Hid (L3 = join L2 (intB x.n)) := hL
  clear hL
  have HB3 : Hid (L3.length ≤ 400) := catB HL3.out HB2.out (intB_len _)
  have HO3 : Hid (Own u3 w0.heap.size (.slice (some ⟨g3, 0, none⟩) L3.length c3) L3) := ho
  clear ho HO2
  have HA_u3 : Hid (Blk u3 w.heap.size #[.int .i64 x.kind, .int .i64 x.frm, .int .i64 x.dst, .int .u64 x.num, .int .i64 x.node, .int .u64 x.life, .int .i64 x.n, .int .i64 x.op, .string x.key, .string x.val, .bool x.has, .int .i64 x.code] 27) := Blk.of HA.out (HY_u3.out.block _ HSZ.out)
  clear z0 z1 z2 z3 z4 z5 z6 z7 z8 z9 z10 z11
  have z0 : u3.cell? ⟨w.heap.size, 0, none⟩ = some (.int .i64 x.kind) := HA_u3.out.cell 0
  have z1 : u3.cell? ⟨w.heap.size, 1, none⟩ = some (.int .i64 x.frm) := HA_u3.out.cell 1
  have z2 : u3.cell? ⟨w.heap.size, 2, none⟩ = some (.int .i64 x.dst) := HA_u3.out.cell 2
  have z3 : u3.cell? ⟨w.heap.size, 3, none⟩ = some (.int .u64 x.num) := HA_u3.out.cell 3
  have z4 : u3.cell? ⟨w.heap.size, 4, none⟩ = some (.int .i64 x.node) := HA_u3.out.cell 4
  have z5 : u3.cell? ⟨w.heap.size, 5, none⟩ = some (.int .u64 x.life) := HA_u3.out.cell 5
  have z6 : u3.cell? ⟨w.heap.size, 6, none⟩ = some (.int .i64 x.n) := HA_u3.out.cell 6
  have z7 : u3.cell? ⟨w.heap.size, 7, none⟩ = some (.int .i64 x.op) := HA_u3.out.cell 7
  have z8 : u3.cell? ⟨w.heap.size, 8, none⟩ = some (.string x.key) := HA_u3.out.cell 8
  have z9 : u3.cell? ⟨w.heap.size, 9, none⟩ = some (.string x.val) := HA_u3.out.cell 9
  have z11 : u3.cell? ⟨w.heap.size, 11, none⟩ = some (.int .i64 x.code) := HA_u3.out.cell 11
  have z10 : u3.cell? ⟨w.heap.size, 10, none⟩ = some (.bool false) := by rw [← HH.out]; exact HA_u3.out.cell 10
  have HEQ : Hid (L3 = msgB x) := by show _ = _; rw [HM.out, HL3.out, HL2.out, HL1.out]
  go_wp2
  go_ret
  refine ⟨g3, c3, ?_, ?_, HY.out.trans (HY_u3.out.mono HY.out.size)⟩
  · rw [HEQ.out]; rfl
  · have := HO3.out.mono HY.out.size
    rw [HEQ.out] at this
    exact this
set_option maxRecDepth 100000 in
set_option maxHeartbeats 8000000 in
theorem lawB6_any (x : MsgQ) (w : World) (hr : RightM x) (hw : x.Wf) (hk : x.kind = 6) (hh : x.has = false) : Calls Try.prog 12 #[.agg #[.int .i64 x.kind, .int .i64 x.frm, .int .i64 x.dst, .int .u64 x.num, .int .i64 x.node, .int .u64 x.life, .int .i64 x.n, .int .i64 x.op, .string x.key, .string x.val, .bool x.has, .int .i64 x.code]] w (Gives w (msgB x)) := by
  have hl : hasLifeB x.kind = false := decide_eq_false (by omega)
  have hn : hasNB x.kind = false := decide_eq_false (by omega)
  have hc : hasCodeB x.kind = true := decide_eq_true (by omega)
  obtain ⟨bk, wk, qk⟩ := u8_ex (n := x.kind) (by have := hr.kind; omega) (by have := hr.kind; omega)
  obtain ⟨bf, wf, qf⟩ := u8_ex (n := x.frm) (by have := hr.frm; omega) (by have := hr.frm; omega)
  obtain ⟨bd, wd, qd⟩ := u8_ex (n := x.dst) (by have := hr.dst; omega) (by have := hr.dst; omega)
  have e2 : (x.kind == 2) = false := by exact beq_eq_false_iff_ne.2 (by omega)
  have e3 : (x.kind == 3) = false := by exact beq_eq_false_iff_ne.2 (by omega)
  have e4 : (x.kind == 4) = false := by exact beq_eq_false_iff_ne.2 (by omega)
  have e5 : (x.kind == 5) = false := by exact beq_eq_false_iff_ne.2 (by omega)
  have e6 : (x.kind == 6) = true := by simp [hk]
  have HM : Hid (msgB x = (join (join [bk, bf, bd] (tidB x.num x.node)) (intB x.code))) := by
    show _ = _
    unfold msgB bodyB lifeB nB doB codeB didB join
    rw [hl, hn, hc, qk, qf, qd]
    simp [hk, List.append_assoc]
  have HTB : Hid (0 ≤ x.num ∧ x.num < 18446744073709551616) := hw.2.2.2.1
  have HLB : Hid (0 ≤ x.life ∧ x.life < 18446744073709551616) := hw.2.2.2.2.2.1
  have HNB : Hid (0 ≤ x.n ∧ x.n < 18446744073709551616) := by have := hr.n; show _ ∧ _; omega
  have wn : IntKind.u64.wrap x.n = x.n := by rw [IntKind.wrap_u64]; have := hr.n; omega
  have HVS : Hid (x.val.size ≤ 48) := by show _ ≤ _; rcases hr.val with e | e <;> omega
  obtain ⟨bc, wc, qc⟩ := u8_ex (n := x.code) (by have := hr.code; omega) (by have := hr.code; omega)
  have HQC : Hid (intB x.code = [bc]) := qc
  clear qc
  have HH : Hid (x.has = false) := hh
  clear hr hw hk hh qk qf qd hl hn hc
  have HA : Hid (Blk (w.alloc (.cells #[.int .i64 x.kind, .int .i64 x.frm, .int .i64 x.dst, .int .u64 x.num, .int .i64 x.node, .int .u64 x.life, .int .i64 x.n, .int .i64 x.op, .string x.key, .string x.val, .bool x.has, .int .i64 x.code] 27)) w.heap.size #[.int .i64 x.kind, .int .i64 x.frm, .int .i64 x.dst, .int .u64 x.num, .int .i64 x.node, .int .u64 x.life, .int .i64 x.n, .int .i64 x.op, .string x.key, .string x.val, .bool x.has, .int .i64 x.code] 27) := Blk.new _ _ _
  have HY : Hid (Below w.heap.size w (w.alloc (.cells #[.int .i64 x.kind, .int .i64 x.frm, .int .i64 x.dst, .int .u64 x.num, .int .i64 x.node, .int .u64 x.life, .int .i64 x.n, .int .i64 x.op, .string x.key, .string x.val, .bool x.has, .int .i64 x.code] 27))) := (Below.refl _ _).alloc (Nat.le_refl _) _
  go_enter Try.func12, Try.ntmps12
  go_upto_region 1 with fail
  generalize w.alloc (.cells #[.int .i64 x.kind, .int .i64 x.frm, .int .i64 x.dst, .int .u64 x.num, .int .i64 x.node, .int .u64 x.life, .int .i64 x.n, .int .i64 x.op, .string x.key, .string x.val, .bool x.has, .int .i64 x.code] 27) = w0 at *
  have z0 : w0.cell? ⟨w.heap.size, 0, none⟩ = some (.int .i64 x.kind) := HA.out.cell 0
  have z1 : w0.cell? ⟨w.heap.size, 1, none⟩ = some (.int .i64 x.frm) := HA.out.cell 1
  have z2 : w0.cell? ⟨w.heap.size, 2, none⟩ = some (.int .i64 x.dst) := HA.out.cell 2
  have z3 : w0.cell? ⟨w.heap.size, 3, none⟩ = some (.int .u64 x.num) := HA.out.cell 3
  have z4 : w0.cell? ⟨w.heap.size, 4, none⟩ = some (.int .i64 x.node) := HA.out.cell 4
  have z5 : w0.cell? ⟨w.heap.size, 5, none⟩ = some (.int .u64 x.life) := HA.out.cell 5
  have z6 : w0.cell? ⟨w.heap.size, 6, none⟩ = some (.int .i64 x.n) := HA.out.cell 6
  have z7 : w0.cell? ⟨w.heap.size, 7, none⟩ = some (.int .i64 x.op) := HA.out.cell 7
  have z8 : w0.cell? ⟨w.heap.size, 8, none⟩ = some (.string x.key) := HA.out.cell 8
  have z9 : w0.cell? ⟨w.heap.size, 9, none⟩ = some (.string x.val) := HA.out.cell 9
  have z11 : w0.cell? ⟨w.heap.size, 11, none⟩ = some (.int .i64 x.code) := HA.out.cell 11
  have z10 : w0.cell? ⟨w.heap.size, 10, none⟩ = some (.bool false) := by rw [← HH.out]; exact HA.out.cell 10
  have HY_w0 : Hid (Below w0.heap.size w0 w0) := Below.refl _ _
  have HSZ : Hid (w.heap.size < w0.heap.size) := HA.out.lt
  have HSR : Hid (Src (w0.alloc (.cells #[.int .u8 (bk.toNat : Int), .int .u8 (bf.toNat : Int), .int .u8 (bd.toNat : Int)] 5)) (.slice (some ⟨w0.heap.size, 0, none⟩) 3 3) [bk, bf, bd]) := src_new w0 [bk, bf, bd] (by simp)
  have zA3 : (w0.alloc (.cells #[.int .u8 (bk.toNat : Int), .int .u8 (bf.toNat : Int), .int .u8 (bd.toNat : Int)] 5)).cell? ⟨w.heap.size, 3, none⟩ = some (.int .u64 x.num) := (HA.out.alloc _).cell 3
  have zA4 : (w0.alloc (.cells #[.int .u8 (bk.toNat : Int), .int .u8 (bf.toNat : Int), .int .u8 (bd.toNat : Int)] 5)).cell? ⟨w.heap.size, 4, none⟩ = some (.int .i64 x.node) := (HA.out.alloc _).cell 4
  have HY_w1 : Hid (Below w0.heap.size w0 (w0.alloc (.cells #[.int .u8 (bk.toNat : Int), .int .u8 (bf.toNat : Int), .int .u8 (bd.toNat : Int)] 5))) := (Below.refl _ _).alloc (Nat.le_refl _) _
  go_wp2_with fail
  generalize (w0.alloc (.cells #[.int .u8 (bk.toNat : Int), .int .u8 (bf.toNat : Int), .int .u8 (bd.toNat : Int)] 5)) = w1 at *
  clear wk wf wd zA3 zA4
  refine (tidM_any (some ⟨w0.heap.size, 0, none⟩) 3 3 [bk, bf, bd] x.num x.node _ HSR.out HTB.out (by simp)).mono ?_
  clear z0 z1 z2 z3 z4 z5 z6 z7 z8 z9 z10 z11
  rintro e u1 ⟨g1, c1, rfl, ho, y⟩
  have HY_u1 : Hid (Below w0.heap.size w0 u1) := HY_w1.out.trans (y.mono HY_w1.out.size)
  have ho := ho.mono HY_w1.out.size
  clear y
  obtain ⟨L1, hL⟩ : ∃ y, y = join [bk, bf, bd] (tidB x.num x.node) := ⟨_, rfl⟩
  rw [← hL] at ho ⊢
  have HL1 : Hid (L1 = join [bk, bf, bd] (tidB x.num x.node)) := hL
  clear hL
  have HB1 : Hid (L1.length ≤ 200) := catB HL1.out (by simp) (tidB_len _ _)
  have HO1 : Hid (Own u1 w0.heap.size (.slice (some ⟨g1, 0, none⟩) L1.length c1) L1) := ho
  clear ho
  have HA_u1 : Hid (Blk u1 w.heap.size #[.int .i64 x.kind, .int .i64 x.frm, .int .i64 x.dst, .int .u64 x.num, .int .i64 x.node, .int .u64 x.life, .int .i64 x.n, .int .i64 x.op, .string x.key, .string x.val, .bool x.has, .int .i64 x.code] 27) := Blk.of HA.out (HY_u1.out.block _ HSZ.out)
  have z0 : u1.cell? ⟨w.heap.size, 0, none⟩ = some (.int .i64 x.kind) := HA_u1.out.cell 0
  have z1 : u1.cell? ⟨w.heap.size, 1, none⟩ = some (.int .i64 x.frm) := HA_u1.out.cell 1
  have z2 : u1.cell? ⟨w.heap.size, 2, none⟩ = some (.int .i64 x.dst) := HA_u1.out.cell 2
  have z3 : u1.cell? ⟨w.heap.size, 3, none⟩ = some (.int .u64 x.num) := HA_u1.out.cell 3
  have z4 : u1.cell? ⟨w.heap.size, 4, none⟩ = some (.int .i64 x.node) := HA_u1.out.cell 4
  have z5 : u1.cell? ⟨w.heap.size, 5, none⟩ = some (.int .u64 x.life) := HA_u1.out.cell 5
  have z6 : u1.cell? ⟨w.heap.size, 6, none⟩ = some (.int .i64 x.n) := HA_u1.out.cell 6
  have z7 : u1.cell? ⟨w.heap.size, 7, none⟩ = some (.int .i64 x.op) := HA_u1.out.cell 7
  have z8 : u1.cell? ⟨w.heap.size, 8, none⟩ = some (.string x.key) := HA_u1.out.cell 8
  have z9 : u1.cell? ⟨w.heap.size, 9, none⟩ = some (.string x.val) := HA_u1.out.cell 9
  have z11 : u1.cell? ⟨w.heap.size, 11, none⟩ = some (.int .i64 x.code) := HA_u1.out.cell 11
  have z10 : u1.cell? ⟨w.heap.size, 10, none⟩ = some (.bool false) := by rw [← HH.out]; exact HA_u1.out.cell 10
  have hHL : L1.length < 1099511627776 := by have := HB1.out; omega
  go_wp2_with (first | (at_builtin; refine wpList_push _ rfl _ _ rfl w0.heap.size _ L1 bc _ rfl HO1.out rfl rfl hHL HY_u1.out.size ?_))
  intro v u2 ho hb2 _
  obtain ⟨g2, c2, hv, _⟩ := Own.form ho (show snoc L1 bc ≠ [] by unfold snoc; simp)
  subst hv
  have hsn : snoc L1 bc = join L1 (intB x.code) := by rw [HQC.out]; rfl
  rw [hsn] at ho ⊢
  have HY_u2 : Hid (Below w0.heap.size w0 u2) := HY_u1.out.trans hb2
  clear hb2 hsn hHL wc
  obtain ⟨L2, hL⟩ : ∃ y, y = join L1 (intB x.code) := ⟨_, rfl⟩
  rw [← hL] at ho ⊢
  have HL2 : Hid (L2 = join L1 (intB x.code)) := hL
  clear hL
  have HB2 : Hid (L2.length ≤ 300) := catB HL2.out HB1.out (intB_len _)
  have HO2 : Hid (Own u2 w0.heap.size (.slice (some ⟨g2, 0, none⟩) L2.length c2) L2) := ho
  clear ho HO1
  have HA_u2 : Hid (Blk u2 w.heap.size #[.int .i64 x.kind, .int .i64 x.frm, .int .i64 x.dst, .int .u64 x.num, .int .i64 x.node, .int .u64 x.life, .int .i64 x.n, .int .i64 x.op, .string x.key, .string x.val, .bool x.has, .int .i64 x.code] 27) := Blk.of HA.out (HY_u2.out.block _ HSZ.out)
  clear z0 z1 z2 z3 z4 z5 z6 z7 z8 z9 z10 z11
  have z0 : u2.cell? ⟨w.heap.size, 0, none⟩ = some (.int .i64 x.kind) := HA_u2.out.cell 0
  have z1 : u2.cell? ⟨w.heap.size, 1, none⟩ = some (.int .i64 x.frm) := HA_u2.out.cell 1
  have z2 : u2.cell? ⟨w.heap.size, 2, none⟩ = some (.int .i64 x.dst) := HA_u2.out.cell 2
  have z3 : u2.cell? ⟨w.heap.size, 3, none⟩ = some (.int .u64 x.num) := HA_u2.out.cell 3
  have z4 : u2.cell? ⟨w.heap.size, 4, none⟩ = some (.int .i64 x.node) := HA_u2.out.cell 4
  have z5 : u2.cell? ⟨w.heap.size, 5, none⟩ = some (.int .u64 x.life) := HA_u2.out.cell 5
  have z6 : u2.cell? ⟨w.heap.size, 6, none⟩ = some (.int .i64 x.n) := HA_u2.out.cell 6
  have z7 : u2.cell? ⟨w.heap.size, 7, none⟩ = some (.int .i64 x.op) := HA_u2.out.cell 7
  have z8 : u2.cell? ⟨w.heap.size, 8, none⟩ = some (.string x.key) := HA_u2.out.cell 8
  have z9 : u2.cell? ⟨w.heap.size, 9, none⟩ = some (.string x.val) := HA_u2.out.cell 9
  have z11 : u2.cell? ⟨w.heap.size, 11, none⟩ = some (.int .i64 x.code) := HA_u2.out.cell 11
  have z10 : u2.cell? ⟨w.heap.size, 10, none⟩ = some (.bool false) := by rw [← HH.out]; exact HA_u2.out.cell 10
  have HEQ : Hid (L2 = msgB x) := by show _ = _; rw [HM.out, HL2.out, HL1.out]
  go_wp2
  go_ret
  refine ⟨g2, c2, ?_, ?_, HY.out.trans (HY_u2.out.mono HY.out.size)⟩
  · rw [HEQ.out]; rfl
  · have := HO2.out.mono HY.out.size
    rw [HEQ.out] at this
    exact this
set_option maxRecDepth 100000 in
set_option maxHeartbeats 8000000 in
theorem lawB0_any (x : MsgQ) (w : World) (hr : RightM x) (hw : x.Wf) (hk : (x.kind ≠ 2 ∧ x.kind ≠ 3 ∧ x.kind ≠ 4 ∧ x.kind ≠ 5 ∧ x.kind ≠ 6)) (hh : x.has = false) : Calls Try.prog 12 #[.agg #[.int .i64 x.kind, .int .i64 x.frm, .int .i64 x.dst, .int .u64 x.num, .int .i64 x.node, .int .u64 x.life, .int .i64 x.n, .int .i64 x.op, .string x.key, .string x.val, .bool x.has, .int .i64 x.code]] w (Gives w (msgB x)) := by
  have hl : hasLifeB x.kind = false := decide_eq_false (by omega)
  have hn : hasNB x.kind = false := decide_eq_false (by omega)
  have hc : hasCodeB x.kind = false := decide_eq_false (by omega)
  obtain ⟨bk, wk, qk⟩ := u8_ex (n := x.kind) (by have := hr.kind; omega) (by have := hr.kind; omega)
  obtain ⟨bf, wf, qf⟩ := u8_ex (n := x.frm) (by have := hr.frm; omega) (by have := hr.frm; omega)
  obtain ⟨bd, wd, qd⟩ := u8_ex (n := x.dst) (by have := hr.dst; omega) (by have := hr.dst; omega)
  have e2 : (x.kind == 2) = false := by exact beq_eq_false_iff_ne.2 (by omega)
  have e3 : (x.kind == 3) = false := by exact beq_eq_false_iff_ne.2 (by omega)
  have e4 : (x.kind == 4) = false := by exact beq_eq_false_iff_ne.2 (by omega)
  have e5 : (x.kind == 5) = false := by exact beq_eq_false_iff_ne.2 (by omega)
  have e6 : (x.kind == 6) = false := by exact beq_eq_false_iff_ne.2 (by omega)
  have HM : Hid (msgB x = (join [bk, bf, bd] (tidB x.num x.node))) := by
    show _ = _
    unfold msgB bodyB lifeB nB doB codeB didB join
    rw [hl, hn, hc, qk, qf, qd]
    simp [hk.2.1, hk.2.2.1, List.append_assoc]
  have HTB : Hid (0 ≤ x.num ∧ x.num < 18446744073709551616) := hw.2.2.2.1
  have HLB : Hid (0 ≤ x.life ∧ x.life < 18446744073709551616) := hw.2.2.2.2.2.1
  have HNB : Hid (0 ≤ x.n ∧ x.n < 18446744073709551616) := by have := hr.n; show _ ∧ _; omega
  have wn : IntKind.u64.wrap x.n = x.n := by rw [IntKind.wrap_u64]; have := hr.n; omega
  have HVS : Hid (x.val.size ≤ 48) := by show _ ≤ _; rcases hr.val with e | e <;> omega
  have HH : Hid (x.has = false) := hh
  clear hr hw hk hh qk qf qd hl hn hc
  have HA : Hid (Blk (w.alloc (.cells #[.int .i64 x.kind, .int .i64 x.frm, .int .i64 x.dst, .int .u64 x.num, .int .i64 x.node, .int .u64 x.life, .int .i64 x.n, .int .i64 x.op, .string x.key, .string x.val, .bool x.has, .int .i64 x.code] 27)) w.heap.size #[.int .i64 x.kind, .int .i64 x.frm, .int .i64 x.dst, .int .u64 x.num, .int .i64 x.node, .int .u64 x.life, .int .i64 x.n, .int .i64 x.op, .string x.key, .string x.val, .bool x.has, .int .i64 x.code] 27) := Blk.new _ _ _
  have HY : Hid (Below w.heap.size w (w.alloc (.cells #[.int .i64 x.kind, .int .i64 x.frm, .int .i64 x.dst, .int .u64 x.num, .int .i64 x.node, .int .u64 x.life, .int .i64 x.n, .int .i64 x.op, .string x.key, .string x.val, .bool x.has, .int .i64 x.code] 27))) := (Below.refl _ _).alloc (Nat.le_refl _) _
  go_enter Try.func12, Try.ntmps12
  go_upto_region 1 with fail
  generalize w.alloc (.cells #[.int .i64 x.kind, .int .i64 x.frm, .int .i64 x.dst, .int .u64 x.num, .int .i64 x.node, .int .u64 x.life, .int .i64 x.n, .int .i64 x.op, .string x.key, .string x.val, .bool x.has, .int .i64 x.code] 27) = w0 at *
  have z0 : w0.cell? ⟨w.heap.size, 0, none⟩ = some (.int .i64 x.kind) := HA.out.cell 0
  have z1 : w0.cell? ⟨w.heap.size, 1, none⟩ = some (.int .i64 x.frm) := HA.out.cell 1
  have z2 : w0.cell? ⟨w.heap.size, 2, none⟩ = some (.int .i64 x.dst) := HA.out.cell 2
  have z3 : w0.cell? ⟨w.heap.size, 3, none⟩ = some (.int .u64 x.num) := HA.out.cell 3
  have z4 : w0.cell? ⟨w.heap.size, 4, none⟩ = some (.int .i64 x.node) := HA.out.cell 4
  have z5 : w0.cell? ⟨w.heap.size, 5, none⟩ = some (.int .u64 x.life) := HA.out.cell 5
  have z6 : w0.cell? ⟨w.heap.size, 6, none⟩ = some (.int .i64 x.n) := HA.out.cell 6
  have z7 : w0.cell? ⟨w.heap.size, 7, none⟩ = some (.int .i64 x.op) := HA.out.cell 7
  have z8 : w0.cell? ⟨w.heap.size, 8, none⟩ = some (.string x.key) := HA.out.cell 8
  have z9 : w0.cell? ⟨w.heap.size, 9, none⟩ = some (.string x.val) := HA.out.cell 9
  have z11 : w0.cell? ⟨w.heap.size, 11, none⟩ = some (.int .i64 x.code) := HA.out.cell 11
  have z10 : w0.cell? ⟨w.heap.size, 10, none⟩ = some (.bool false) := by rw [← HH.out]; exact HA.out.cell 10
  have HY_w0 : Hid (Below w0.heap.size w0 w0) := Below.refl _ _
  have HSZ : Hid (w.heap.size < w0.heap.size) := HA.out.lt
  have HSR : Hid (Src (w0.alloc (.cells #[.int .u8 (bk.toNat : Int), .int .u8 (bf.toNat : Int), .int .u8 (bd.toNat : Int)] 5)) (.slice (some ⟨w0.heap.size, 0, none⟩) 3 3) [bk, bf, bd]) := src_new w0 [bk, bf, bd] (by simp)
  have zA3 : (w0.alloc (.cells #[.int .u8 (bk.toNat : Int), .int .u8 (bf.toNat : Int), .int .u8 (bd.toNat : Int)] 5)).cell? ⟨w.heap.size, 3, none⟩ = some (.int .u64 x.num) := (HA.out.alloc _).cell 3
  have zA4 : (w0.alloc (.cells #[.int .u8 (bk.toNat : Int), .int .u8 (bf.toNat : Int), .int .u8 (bd.toNat : Int)] 5)).cell? ⟨w.heap.size, 4, none⟩ = some (.int .i64 x.node) := (HA.out.alloc _).cell 4
  have HY_w1 : Hid (Below w0.heap.size w0 (w0.alloc (.cells #[.int .u8 (bk.toNat : Int), .int .u8 (bf.toNat : Int), .int .u8 (bd.toNat : Int)] 5))) := (Below.refl _ _).alloc (Nat.le_refl _) _
  go_wp2_with fail
  generalize (w0.alloc (.cells #[.int .u8 (bk.toNat : Int), .int .u8 (bf.toNat : Int), .int .u8 (bd.toNat : Int)] 5)) = w1 at *
  clear wk wf wd zA3 zA4
  refine (tidM_any (some ⟨w0.heap.size, 0, none⟩) 3 3 [bk, bf, bd] x.num x.node _ HSR.out HTB.out (by simp)).mono ?_
  clear z0 z1 z2 z3 z4 z5 z6 z7 z8 z9 z10 z11
  rintro e u1 ⟨g1, c1, rfl, ho, y⟩
  have HY_u1 : Hid (Below w0.heap.size w0 u1) := HY_w1.out.trans (y.mono HY_w1.out.size)
  have ho := ho.mono HY_w1.out.size
  clear y
  obtain ⟨L1, hL⟩ : ∃ y, y = join [bk, bf, bd] (tidB x.num x.node) := ⟨_, rfl⟩
  rw [← hL] at ho ⊢
  have HL1 : Hid (L1 = join [bk, bf, bd] (tidB x.num x.node)) := hL
  clear hL
  have HB1 : Hid (L1.length ≤ 200) := catB HL1.out (by simp) (tidB_len _ _)
  have HO1 : Hid (Own u1 w0.heap.size (.slice (some ⟨g1, 0, none⟩) L1.length c1) L1) := ho
  clear ho
  have HA_u1 : Hid (Blk u1 w.heap.size #[.int .i64 x.kind, .int .i64 x.frm, .int .i64 x.dst, .int .u64 x.num, .int .i64 x.node, .int .u64 x.life, .int .i64 x.n, .int .i64 x.op, .string x.key, .string x.val, .bool x.has, .int .i64 x.code] 27) := Blk.of HA.out (HY_u1.out.block _ HSZ.out)
  have z0 : u1.cell? ⟨w.heap.size, 0, none⟩ = some (.int .i64 x.kind) := HA_u1.out.cell 0
  have z1 : u1.cell? ⟨w.heap.size, 1, none⟩ = some (.int .i64 x.frm) := HA_u1.out.cell 1
  have z2 : u1.cell? ⟨w.heap.size, 2, none⟩ = some (.int .i64 x.dst) := HA_u1.out.cell 2
  have z3 : u1.cell? ⟨w.heap.size, 3, none⟩ = some (.int .u64 x.num) := HA_u1.out.cell 3
  have z4 : u1.cell? ⟨w.heap.size, 4, none⟩ = some (.int .i64 x.node) := HA_u1.out.cell 4
  have z5 : u1.cell? ⟨w.heap.size, 5, none⟩ = some (.int .u64 x.life) := HA_u1.out.cell 5
  have z6 : u1.cell? ⟨w.heap.size, 6, none⟩ = some (.int .i64 x.n) := HA_u1.out.cell 6
  have z7 : u1.cell? ⟨w.heap.size, 7, none⟩ = some (.int .i64 x.op) := HA_u1.out.cell 7
  have z8 : u1.cell? ⟨w.heap.size, 8, none⟩ = some (.string x.key) := HA_u1.out.cell 8
  have z9 : u1.cell? ⟨w.heap.size, 9, none⟩ = some (.string x.val) := HA_u1.out.cell 9
  have z11 : u1.cell? ⟨w.heap.size, 11, none⟩ = some (.int .i64 x.code) := HA_u1.out.cell 11
  have z10 : u1.cell? ⟨w.heap.size, 10, none⟩ = some (.bool false) := by rw [← HH.out]; exact HA_u1.out.cell 10
  have HEQ : Hid (L1 = msgB x) := by show _ = _; rw [HM.out, HL1.out]
  go_wp2
  go_ret
  refine ⟨g1, c1, ?_, ?_, HY.out.trans (HY_u1.out.mono HY.out.size)⟩
  · rw [HEQ.out]; rfl
  · have := HO1.out.mono HY.out.size
    rw [HEQ.out] at this
    exact this
set_option maxRecDepth 100000 in
set_option maxHeartbeats 8000000 in
theorem lawB4t_any (x : MsgQ) (w : World) (hr : RightM x) (hw : x.Wf) (hk : x.kind = 4) (hh : x.has = true) : Calls Try.prog 12 #[.agg #[.int .i64 x.kind, .int .i64 x.frm, .int .i64 x.dst, .int .u64 x.num, .int .i64 x.node, .int .u64 x.life, .int .i64 x.n, .int .i64 x.op, .string x.key, .string x.val, .bool x.has, .int .i64 x.code]] w (Gives w (msgB x)) := by
  have hl : hasLifeB x.kind = false := decide_eq_false (by omega)
  have hn : hasNB x.kind = true := decide_eq_true (by omega)
  have hc : hasCodeB x.kind = true := decide_eq_true (by omega)
  obtain ⟨bk, wk, qk⟩ := u8_ex (n := x.kind) (by have := hr.kind; omega) (by have := hr.kind; omega)
  obtain ⟨bf, wf, qf⟩ := u8_ex (n := x.frm) (by have := hr.frm; omega) (by have := hr.frm; omega)
  obtain ⟨bd, wd, qd⟩ := u8_ex (n := x.dst) (by have := hr.dst; omega) (by have := hr.dst; omega)
  have e2 : (x.kind == 2) = false := by exact beq_eq_false_iff_ne.2 (by omega)
  have e3 : (x.kind == 3) = false := by exact beq_eq_false_iff_ne.2 (by omega)
  have e4 : (x.kind == 4) = true := by simp [hk]
  have e5 : (x.kind == 5) = false := by exact beq_eq_false_iff_ne.2 (by omega)
  have e6 : (x.kind == 6) = false := by exact beq_eq_false_iff_ne.2 (by omega)
  have HM : Hid (msgB x = (join (join (join (join [bk, bf, bd] (tidB x.num x.node)) (intB x.n)) (join (intB x.code) (enc (flagN x.has)))) (textB x.val))) := by
    show _ = _
    unfold msgB bodyB lifeB nB doB codeB didB join
    rw [hl, hn, hc, qk, qf, qd]
    simp [hk, List.append_assoc]
  have HTB : Hid (0 ≤ x.num ∧ x.num < 18446744073709551616) := hw.2.2.2.1
  have HLB : Hid (0 ≤ x.life ∧ x.life < 18446744073709551616) := hw.2.2.2.2.2.1
  have HNB : Hid (0 ≤ x.n ∧ x.n < 18446744073709551616) := by have := hr.n; show _ ∧ _; omega
  have wn : IntKind.u64.wrap x.n = x.n := by rw [IntKind.wrap_u64]; have := hr.n; omega
  have HVS : Hid (x.val.size ≤ 48) := by show _ ≤ _; rcases hr.val with e | e <;> omega
  obtain ⟨bc, wc, qc⟩ := u8_ex (n := x.code) (by have := hr.code; omega) (by have := hr.code; omega)
  have HQC : Hid (intB x.code = [bc]) := qc
  clear qc
  have HH : Hid (x.has = true) := hh
  clear hr hw hk hh qk qf qd hl hn hc
  have HA : Hid (Blk (w.alloc (.cells #[.int .i64 x.kind, .int .i64 x.frm, .int .i64 x.dst, .int .u64 x.num, .int .i64 x.node, .int .u64 x.life, .int .i64 x.n, .int .i64 x.op, .string x.key, .string x.val, .bool x.has, .int .i64 x.code] 27)) w.heap.size #[.int .i64 x.kind, .int .i64 x.frm, .int .i64 x.dst, .int .u64 x.num, .int .i64 x.node, .int .u64 x.life, .int .i64 x.n, .int .i64 x.op, .string x.key, .string x.val, .bool x.has, .int .i64 x.code] 27) := Blk.new _ _ _
  have HY : Hid (Below w.heap.size w (w.alloc (.cells #[.int .i64 x.kind, .int .i64 x.frm, .int .i64 x.dst, .int .u64 x.num, .int .i64 x.node, .int .u64 x.life, .int .i64 x.n, .int .i64 x.op, .string x.key, .string x.val, .bool x.has, .int .i64 x.code] 27))) := (Below.refl _ _).alloc (Nat.le_refl _) _
  go_enter Try.func12, Try.ntmps12
  go_upto_region 1 with fail
  generalize w.alloc (.cells #[.int .i64 x.kind, .int .i64 x.frm, .int .i64 x.dst, .int .u64 x.num, .int .i64 x.node, .int .u64 x.life, .int .i64 x.n, .int .i64 x.op, .string x.key, .string x.val, .bool x.has, .int .i64 x.code] 27) = w0 at *
  have z0 : w0.cell? ⟨w.heap.size, 0, none⟩ = some (.int .i64 x.kind) := HA.out.cell 0
  have z1 : w0.cell? ⟨w.heap.size, 1, none⟩ = some (.int .i64 x.frm) := HA.out.cell 1
  have z2 : w0.cell? ⟨w.heap.size, 2, none⟩ = some (.int .i64 x.dst) := HA.out.cell 2
  have z3 : w0.cell? ⟨w.heap.size, 3, none⟩ = some (.int .u64 x.num) := HA.out.cell 3
  have z4 : w0.cell? ⟨w.heap.size, 4, none⟩ = some (.int .i64 x.node) := HA.out.cell 4
  have z5 : w0.cell? ⟨w.heap.size, 5, none⟩ = some (.int .u64 x.life) := HA.out.cell 5
  have z6 : w0.cell? ⟨w.heap.size, 6, none⟩ = some (.int .i64 x.n) := HA.out.cell 6
  have z7 : w0.cell? ⟨w.heap.size, 7, none⟩ = some (.int .i64 x.op) := HA.out.cell 7
  have z8 : w0.cell? ⟨w.heap.size, 8, none⟩ = some (.string x.key) := HA.out.cell 8
  have z9 : w0.cell? ⟨w.heap.size, 9, none⟩ = some (.string x.val) := HA.out.cell 9
  have z11 : w0.cell? ⟨w.heap.size, 11, none⟩ = some (.int .i64 x.code) := HA.out.cell 11
  have z10 : w0.cell? ⟨w.heap.size, 10, none⟩ = some (.bool true) := by rw [← HH.out]; exact HA.out.cell 10
  have HY_w0 : Hid (Below w0.heap.size w0 w0) := Below.refl _ _
  have HSZ : Hid (w.heap.size < w0.heap.size) := HA.out.lt
  have HSR : Hid (Src (w0.alloc (.cells #[.int .u8 (bk.toNat : Int), .int .u8 (bf.toNat : Int), .int .u8 (bd.toNat : Int)] 5)) (.slice (some ⟨w0.heap.size, 0, none⟩) 3 3) [bk, bf, bd]) := src_new w0 [bk, bf, bd] (by simp)
  have zA3 : (w0.alloc (.cells #[.int .u8 (bk.toNat : Int), .int .u8 (bf.toNat : Int), .int .u8 (bd.toNat : Int)] 5)).cell? ⟨w.heap.size, 3, none⟩ = some (.int .u64 x.num) := (HA.out.alloc _).cell 3
  have zA4 : (w0.alloc (.cells #[.int .u8 (bk.toNat : Int), .int .u8 (bf.toNat : Int), .int .u8 (bd.toNat : Int)] 5)).cell? ⟨w.heap.size, 4, none⟩ = some (.int .i64 x.node) := (HA.out.alloc _).cell 4
  have HY_w1 : Hid (Below w0.heap.size w0 (w0.alloc (.cells #[.int .u8 (bk.toNat : Int), .int .u8 (bf.toNat : Int), .int .u8 (bd.toNat : Int)] 5))) := (Below.refl _ _).alloc (Nat.le_refl _) _
  go_wp2_with fail
  generalize (w0.alloc (.cells #[.int .u8 (bk.toNat : Int), .int .u8 (bf.toNat : Int), .int .u8 (bd.toNat : Int)] 5)) = w1 at *
  clear wk wf wd zA3 zA4
  refine (tidM_any (some ⟨w0.heap.size, 0, none⟩) 3 3 [bk, bf, bd] x.num x.node _ HSR.out HTB.out (by simp)).mono ?_
  clear z0 z1 z2 z3 z4 z5 z6 z7 z8 z9 z10 z11
  rintro e u1 ⟨g1, c1, rfl, ho, y⟩
  have HY_u1 : Hid (Below w0.heap.size w0 u1) := HY_w1.out.trans (y.mono HY_w1.out.size)
  have ho := ho.mono HY_w1.out.size
  clear y
  obtain ⟨L1, hL⟩ : ∃ y, y = join [bk, bf, bd] (tidB x.num x.node) := ⟨_, rfl⟩
  rw [← hL] at ho ⊢
  have HL1 : Hid (L1 = join [bk, bf, bd] (tidB x.num x.node)) := hL
  clear hL
  have HB1 : Hid (L1.length ≤ 200) := catB HL1.out (by simp) (tidB_len _ _)
  have HO1 : Hid (Own u1 w0.heap.size (.slice (some ⟨g1, 0, none⟩) L1.length c1) L1) := ho
  clear ho
  have HA_u1 : Hid (Blk u1 w.heap.size #[.int .i64 x.kind, .int .i64 x.frm, .int .i64 x.dst, .int .u64 x.num, .int .i64 x.node, .int .u64 x.life, .int .i64 x.n, .int .i64 x.op, .string x.key, .string x.val, .bool x.has, .int .i64 x.code] 27) := Blk.of HA.out (HY_u1.out.block _ HSZ.out)
  have z0 : u1.cell? ⟨w.heap.size, 0, none⟩ = some (.int .i64 x.kind) := HA_u1.out.cell 0
  have z1 : u1.cell? ⟨w.heap.size, 1, none⟩ = some (.int .i64 x.frm) := HA_u1.out.cell 1
  have z2 : u1.cell? ⟨w.heap.size, 2, none⟩ = some (.int .i64 x.dst) := HA_u1.out.cell 2
  have z3 : u1.cell? ⟨w.heap.size, 3, none⟩ = some (.int .u64 x.num) := HA_u1.out.cell 3
  have z4 : u1.cell? ⟨w.heap.size, 4, none⟩ = some (.int .i64 x.node) := HA_u1.out.cell 4
  have z5 : u1.cell? ⟨w.heap.size, 5, none⟩ = some (.int .u64 x.life) := HA_u1.out.cell 5
  have z6 : u1.cell? ⟨w.heap.size, 6, none⟩ = some (.int .i64 x.n) := HA_u1.out.cell 6
  have z7 : u1.cell? ⟨w.heap.size, 7, none⟩ = some (.int .i64 x.op) := HA_u1.out.cell 7
  have z8 : u1.cell? ⟨w.heap.size, 8, none⟩ = some (.string x.key) := HA_u1.out.cell 8
  have z9 : u1.cell? ⟨w.heap.size, 9, none⟩ = some (.string x.val) := HA_u1.out.cell 9
  have z11 : u1.cell? ⟨w.heap.size, 11, none⟩ = some (.int .i64 x.code) := HA_u1.out.cell 11
  have z10 : u1.cell? ⟨w.heap.size, 10, none⟩ = some (.bool true) := by rw [← HH.out]; exact HA_u1.out.cell 10
  go_wp2_with fail
  refine (putM_any (some ⟨g1, 0, none⟩) L1.length c1 L1 x.n _ HO1.out.src HNB.out (by have := HB1.out; omega)).mono ?_
  rintro e u2 ⟨g2, c2, rfl, ho, y⟩
  have HY_u2 : Hid (Below w0.heap.size w0 u2) := HY_u1.out.trans (y.mono HY_u1.out.size)
  have ho := ho.mono HY_u1.out.size
  clear y
  obtain ⟨L2, hL⟩ : ∃ y, y = join L1 (intB x.n) := ⟨_, rfl⟩
  rw [← hL] at ho ⊢
  have HL2 : Hid (L2 = join L1 (intB x.n)) := hL
  clear hL
  have HB2 : Hid (L2.length ≤ 300) := catB HL2.out HB1.out (intB_len _)
  have HO2 : Hid (Own u2 w0.heap.size (.slice (some ⟨g2, 0, none⟩) L2.length c2) L2) := ho
  clear ho HO1
  have HA_u2 : Hid (Blk u2 w.heap.size #[.int .i64 x.kind, .int .i64 x.frm, .int .i64 x.dst, .int .u64 x.num, .int .i64 x.node, .int .u64 x.life, .int .i64 x.n, .int .i64 x.op, .string x.key, .string x.val, .bool x.has, .int .i64 x.code] 27) := Blk.of HA.out (HY_u2.out.block _ HSZ.out)
  clear z0 z1 z2 z3 z4 z5 z6 z7 z8 z9 z10 z11
  have z0 : u2.cell? ⟨w.heap.size, 0, none⟩ = some (.int .i64 x.kind) := HA_u2.out.cell 0
  have z1 : u2.cell? ⟨w.heap.size, 1, none⟩ = some (.int .i64 x.frm) := HA_u2.out.cell 1
  have z2 : u2.cell? ⟨w.heap.size, 2, none⟩ = some (.int .i64 x.dst) := HA_u2.out.cell 2
  have z3 : u2.cell? ⟨w.heap.size, 3, none⟩ = some (.int .u64 x.num) := HA_u2.out.cell 3
  have z4 : u2.cell? ⟨w.heap.size, 4, none⟩ = some (.int .i64 x.node) := HA_u2.out.cell 4
  have z5 : u2.cell? ⟨w.heap.size, 5, none⟩ = some (.int .u64 x.life) := HA_u2.out.cell 5
  have z6 : u2.cell? ⟨w.heap.size, 6, none⟩ = some (.int .i64 x.n) := HA_u2.out.cell 6
  have z7 : u2.cell? ⟨w.heap.size, 7, none⟩ = some (.int .i64 x.op) := HA_u2.out.cell 7
  have z8 : u2.cell? ⟨w.heap.size, 8, none⟩ = some (.string x.key) := HA_u2.out.cell 8
  have z9 : u2.cell? ⟨w.heap.size, 9, none⟩ = some (.string x.val) := HA_u2.out.cell 9
  have z11 : u2.cell? ⟨w.heap.size, 11, none⟩ = some (.int .i64 x.code) := HA_u2.out.cell 11
  have z10 : u2.cell? ⟨w.heap.size, 10, none⟩ = some (.bool true) := by rw [← HH.out]; exact HA_u2.out.cell 10
  have HS2 : Hid (Src (u2.alloc (.cells #[.int .u8 (bc.toNat : Int), .int .u8 1] 5)) (.slice (some ⟨u2.heap.size, 0, none⟩) 2 2) [bc, 1]) := src_new u2 [bc, 1] (by simp)
  have HO2 : Hid (Own (u2.alloc (.cells #[.int .u8 (bc.toNat : Int), .int .u8 1] 5)) w0.heap.size (.slice (some ⟨g2, 0, none⟩) L2.length c2) L2) := HO2.out.alloc _
  have HY2 : Hid (Below w0.heap.size w0 (u2.alloc (.cells #[.int .u8 (bc.toNat : Int), .int .u8 1] 5))) := HY_u2.out.alloc HY_u2.out.size _
  have hHL : L2.length + [bc, 1].length < 1099511627776 := by have := HB2.out; simp; omega
  go_wp2_with (first | (at_builtin; refine wpList_join _ rfl _ _ rfl w0.heap.size _ L2 [bc, 1] HO2.out rfl _ HS2.out rfl hHL HY2.out.size ?_))
  intro v u3 ho hg2 _
  obtain ⟨g3, c3, hv, _⟩ := Own.form ho (show join L2 [bc, 1] ≠ [] by unfold join; simp)
  subst hv
  have hsn : [bc, 1] = join (intB x.code) (enc (flagN x.has)) := by rw [HQC.out, HH.out]; rfl
  rw [hsn] at ho ⊢
  have HY_u3 : Hid (Below w0.heap.size w0 u3) := HY2.out.grown hg2 HY2.out.size (fun k hk => (HO2.out.lt k hk).1)
  clear hg2 hsn hHL wc HO2 HS2
  obtain ⟨L3, hL⟩ : ∃ y, y = join L2 (join (intB x.code) (enc (flagN x.has))) := ⟨_, rfl⟩
  rw [← hL] at ho ⊢
  have HL3 : Hid (L3 = join L2 (join (intB x.code) (enc (flagN x.has)))) := hL
  clear hL
  have HB3 : Hid (L3.length ≤ 400) := catB HL3.out HB2.out ((by rw [join_length, HQC.out, HH.out]; show 1 + (enc (flagN true)).length ≤ 100; decide))
  have HO3 : Hid (Own u3 w0.heap.size (.slice (some ⟨g3, 0, none⟩) L3.length c3) L3) := ho
  clear ho HO2
  have HA_u3 : Hid (Blk u3 w.heap.size #[.int .i64 x.kind, .int .i64 x.frm, .int .i64 x.dst, .int .u64 x.num, .int .i64 x.node, .int .u64 x.life, .int .i64 x.n, .int .i64 x.op, .string x.key, .string x.val, .bool x.has, .int .i64 x.code] 27) := Blk.of HA.out (HY_u3.out.block _ HSZ.out)
  clear z0 z1 z2 z3 z4 z5 z6 z7 z8 z9 z10 z11
  have z0 : u3.cell? ⟨w.heap.size, 0, none⟩ = some (.int .i64 x.kind) := HA_u3.out.cell 0
  have z1 : u3.cell? ⟨w.heap.size, 1, none⟩ = some (.int .i64 x.frm) := HA_u3.out.cell 1
  have z2 : u3.cell? ⟨w.heap.size, 2, none⟩ = some (.int .i64 x.dst) := HA_u3.out.cell 2
  have z3 : u3.cell? ⟨w.heap.size, 3, none⟩ = some (.int .u64 x.num) := HA_u3.out.cell 3
  have z4 : u3.cell? ⟨w.heap.size, 4, none⟩ = some (.int .i64 x.node) := HA_u3.out.cell 4
  have z5 : u3.cell? ⟨w.heap.size, 5, none⟩ = some (.int .u64 x.life) := HA_u3.out.cell 5
  have z6 : u3.cell? ⟨w.heap.size, 6, none⟩ = some (.int .i64 x.n) := HA_u3.out.cell 6
  have z7 : u3.cell? ⟨w.heap.size, 7, none⟩ = some (.int .i64 x.op) := HA_u3.out.cell 7
  have z8 : u3.cell? ⟨w.heap.size, 8, none⟩ = some (.string x.key) := HA_u3.out.cell 8
  have z9 : u3.cell? ⟨w.heap.size, 9, none⟩ = some (.string x.val) := HA_u3.out.cell 9
  have z11 : u3.cell? ⟨w.heap.size, 11, none⟩ = some (.int .i64 x.code) := HA_u3.out.cell 11
  have z10 : u3.cell? ⟨w.heap.size, 10, none⟩ = some (.bool true) := by rw [← HH.out]; exact HA_u3.out.cell 10
  go_wp2_with fail
  refine (textM_any (some ⟨g3, 0, none⟩) L3.length c3 L3 x.val _ HO3.out.src (by have := HVS.out; omega) (by have := HB3.out; omega)).mono ?_
  rintro e u4 ⟨g4, c4, rfl, ho, y⟩
  have HY_u4 : Hid (Below w0.heap.size w0 u4) := HY_u3.out.trans (y.mono HY_u3.out.size)
  have ho := ho.mono HY_u3.out.size
  clear y
  obtain ⟨L4, hL⟩ : ∃ y, y = join L3 (textB x.val) := ⟨_, rfl⟩
  rw [← hL] at ho ⊢
  have HL4 : Hid (L4 = join L3 (textB x.val)) := hL
  clear hL
  have HB4 : Hid (L4.length ≤ 500) := catB HL4.out HB3.out (textB_len HVS.out)
  have HO4 : Hid (Own u4 w0.heap.size (.slice (some ⟨g4, 0, none⟩) L4.length c4) L4) := ho
  clear ho HO3
  have HA_u4 : Hid (Blk u4 w.heap.size #[.int .i64 x.kind, .int .i64 x.frm, .int .i64 x.dst, .int .u64 x.num, .int .i64 x.node, .int .u64 x.life, .int .i64 x.n, .int .i64 x.op, .string x.key, .string x.val, .bool x.has, .int .i64 x.code] 27) := Blk.of HA.out (HY_u4.out.block _ HSZ.out)
  clear z0 z1 z2 z3 z4 z5 z6 z7 z8 z9 z10 z11
  have z0 : u4.cell? ⟨w.heap.size, 0, none⟩ = some (.int .i64 x.kind) := HA_u4.out.cell 0
  have z1 : u4.cell? ⟨w.heap.size, 1, none⟩ = some (.int .i64 x.frm) := HA_u4.out.cell 1
  have z2 : u4.cell? ⟨w.heap.size, 2, none⟩ = some (.int .i64 x.dst) := HA_u4.out.cell 2
  have z3 : u4.cell? ⟨w.heap.size, 3, none⟩ = some (.int .u64 x.num) := HA_u4.out.cell 3
  have z4 : u4.cell? ⟨w.heap.size, 4, none⟩ = some (.int .i64 x.node) := HA_u4.out.cell 4
  have z5 : u4.cell? ⟨w.heap.size, 5, none⟩ = some (.int .u64 x.life) := HA_u4.out.cell 5
  have z6 : u4.cell? ⟨w.heap.size, 6, none⟩ = some (.int .i64 x.n) := HA_u4.out.cell 6
  have z7 : u4.cell? ⟨w.heap.size, 7, none⟩ = some (.int .i64 x.op) := HA_u4.out.cell 7
  have z8 : u4.cell? ⟨w.heap.size, 8, none⟩ = some (.string x.key) := HA_u4.out.cell 8
  have z9 : u4.cell? ⟨w.heap.size, 9, none⟩ = some (.string x.val) := HA_u4.out.cell 9
  have z11 : u4.cell? ⟨w.heap.size, 11, none⟩ = some (.int .i64 x.code) := HA_u4.out.cell 11
  have z10 : u4.cell? ⟨w.heap.size, 10, none⟩ = some (.bool true) := by rw [← HH.out]; exact HA_u4.out.cell 10
  have HEQ : Hid (L4 = msgB x) := by show _ = _; rw [HM.out, HL4.out, HL3.out, HL2.out, HL1.out]
  go_wp2
  go_ret
  refine ⟨g4, c4, ?_, ?_, HY.out.trans (HY_u4.out.mono HY.out.size)⟩
  · rw [HEQ.out]; rfl
  · have := HO4.out.mono HY.out.size
    rw [HEQ.out] at this
    exact this
theorem lawBytes15_any (x : MsgQ) (w : World) (hr : RightM x) (hw : x.Wf) : Calls Try.prog 12 #[.agg #[.int .i64 x.kind, .int .i64 x.frm, .int .i64 x.dst, .int .u64 x.num, .int .i64 x.node, .int .u64 x.life, .int .i64 x.n, .int .i64 x.op, .string x.key, .string x.val, .bool x.has, .int .i64 x.code]] w (Gives w (msgB x)) := by
  by_cases k4 : x.kind = 4
  · obtain ⟨hv, hh⟩ : ∃ b, x.has = b := ⟨_, rfl⟩
    cases hv with
    | true => exact lawB4t_any x w hr hw k4 hh
    | false => exact lawB4_any x w hr hw k4 hh
  · have hh : x.has = false := by
      rcases hr.has with e | e
      · exact e
      · exact absurd e k4
    by_cases k2 : x.kind = 2
    · exact lawB2_any x w hr hw k2 hh
    by_cases k3 : x.kind = 3
    · exact lawB3_any x w hr hw k3 hh
    by_cases k5 : x.kind = 5
    · exact lawB5_any x w hr hw k5 hh
    by_cases k6 : x.kind = 6
    · exact lawB6_any x w hr hw k6 hh
    exact lawB0_any x w hr hw ⟨k2, k3, k4, k5, k6⟩ hh
end Go.Proofs.Ytefmeeffkjendaa

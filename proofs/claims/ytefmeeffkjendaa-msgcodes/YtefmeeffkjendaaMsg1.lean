/- msg: which messages are right, walked. Own lemmas, no statement. -/
import Derived.Test.YtefmeeffkjendaaMsgQ
import Derived.Test.YtefmeeffkjendaaSrcSeg
import Derived.WalkKit
import Derived.Deep.Cut
import Derived.Deep.CutRange
import Derived.Deep.CutBlock
set_option linter.unusedSimpArgs false
set_option linter.unusedVariables false
namespace Go.Proofs.Ytefmeeffkjendaa
open Go.ChangeShapes Go.WideShapes Go.ChangeAt Go.RowKit

set_option maxHeartbeats 1000000 in
theorem hasLife_any (x : MsgQ) (w : World) : Calls Try.prog 15 #[.agg #[.int .i64 x.kind, .int .i64 x.frm, .int .i64 x.dst, .int .u64 x.num, .int .i64 x.node, .int .u64 x.life, .int .i64 x.n, .int .i64 x.op, .string x.key, .string x.val, .bool x.has, .int .i64 x.code]] w fun e w' => e = .returned (.bool (hasLifeB x.kind)) ∧ Below w.heap.size w w' := by
  have HA : Hid (Blk (w.alloc (.cells #[.int .i64 x.kind, .int .i64 x.frm, .int .i64 x.dst, .int .u64 x.num, .int .i64 x.node, .int .u64 x.life, .int .i64 x.n, .int .i64 x.op, .string x.key, .string x.val, .bool x.has, .int .i64 x.code] 27)) w.heap.size #[.int .i64 x.kind, .int .i64 x.frm, .int .i64 x.dst, .int .u64 x.num, .int .i64 x.node, .int .u64 x.life, .int .i64 x.n, .int .i64 x.op, .string x.key, .string x.val, .bool x.has, .int .i64 x.code] 27) := Blk.new _ _ _
  have HY : Hid (Below w.heap.size w (w.alloc (.cells #[.int .i64 x.kind, .int .i64 x.frm, .int .i64 x.dst, .int .u64 x.num, .int .i64 x.node, .int .u64 x.life, .int .i64 x.n, .int .i64 x.op, .string x.key, .string x.val, .bool x.has, .int .i64 x.code] 27))) := (Below.refl _ _).alloc (Nat.le_refl _) _
  go_enter Try.func15, Try.ntmps15
  go_upto_region 1 with fail
  generalize w.alloc (.cells #[.int .i64 x.kind, .int .i64 x.frm, .int .i64 x.dst, .int .u64 x.num, .int .i64 x.node, .int .u64 x.life, .int .i64 x.n, .int .i64 x.op, .string x.key, .string x.val, .bool x.has, .int .i64 x.code] 27) = w0 at *
  have z0 : w0.cell? ⟨w.heap.size, 0, none⟩ = some (.int .i64 x.kind) := HA.out.cell 0
  clear HA
  by_cases k2 : x.kind = 2
  · have HK : Hid (hasLifeB x.kind = true) := decide_eq_true (by omega)
    have e2 : (x.kind == 2) = true := by simp [k2]
    clear k2
    go_wp2
    go_ret
    exact ⟨ret_bool HK.out.symm, HY.out⟩
  have e2 : (x.kind == 2) = false := beq_eq_false_iff_ne.2 k2
  by_cases k3 : x.kind = 3
  · have HK : Hid (hasLifeB x.kind = true) := decide_eq_true (by omega)
    have e3 : (x.kind == 3) = true := by simp [k3]
    clear k3
    go_wp2
    go_ret
    exact ⟨ret_bool HK.out.symm, HY.out⟩
  have e3 : (x.kind == 3) = false := beq_eq_false_iff_ne.2 k3
  by_cases k5 : x.kind = 5
  · have HK : Hid (hasLifeB x.kind = true) := decide_eq_true (by omega)
    have e5 : (x.kind == 5) = true := by simp [k5]
    clear k5
    go_wp2
    go_ret
    exact ⟨ret_bool HK.out.symm, HY.out⟩
  have e5 : (x.kind == 5) = false := beq_eq_false_iff_ne.2 k5
  have HE : Hid (hasLifeB x.kind = false) := decide_eq_false (by omega)
  clear k2; clear k3; clear k5
  go_wp2
  go_ret
  exact ⟨ret_bool HE.out.symm, HY.out⟩
set_option maxHeartbeats 1000000 in
theorem hasN_any (x : MsgQ) (w : World) : Calls Try.prog 17 #[.agg #[.int .i64 x.kind, .int .i64 x.frm, .int .i64 x.dst, .int .u64 x.num, .int .i64 x.node, .int .u64 x.life, .int .i64 x.n, .int .i64 x.op, .string x.key, .string x.val, .bool x.has, .int .i64 x.code]] w fun e w' => e = .returned (.bool (hasNB x.kind)) ∧ Below w.heap.size w w' := by
  have HA : Hid (Blk (w.alloc (.cells #[.int .i64 x.kind, .int .i64 x.frm, .int .i64 x.dst, .int .u64 x.num, .int .i64 x.node, .int .u64 x.life, .int .i64 x.n, .int .i64 x.op, .string x.key, .string x.val, .bool x.has, .int .i64 x.code] 27)) w.heap.size #[.int .i64 x.kind, .int .i64 x.frm, .int .i64 x.dst, .int .u64 x.num, .int .i64 x.node, .int .u64 x.life, .int .i64 x.n, .int .i64 x.op, .string x.key, .string x.val, .bool x.has, .int .i64 x.code] 27) := Blk.new _ _ _
  have HY : Hid (Below w.heap.size w (w.alloc (.cells #[.int .i64 x.kind, .int .i64 x.frm, .int .i64 x.dst, .int .u64 x.num, .int .i64 x.node, .int .u64 x.life, .int .i64 x.n, .int .i64 x.op, .string x.key, .string x.val, .bool x.has, .int .i64 x.code] 27))) := (Below.refl _ _).alloc (Nat.le_refl _) _
  go_enter Try.func17, Try.ntmps17
  go_upto_region 1 with fail
  generalize w.alloc (.cells #[.int .i64 x.kind, .int .i64 x.frm, .int .i64 x.dst, .int .u64 x.num, .int .i64 x.node, .int .u64 x.life, .int .i64 x.n, .int .i64 x.op, .string x.key, .string x.val, .bool x.has, .int .i64 x.code] 27) = w0 at *
  have z0 : w0.cell? ⟨w.heap.size, 0, none⟩ = some (.int .i64 x.kind) := HA.out.cell 0
  clear HA
  by_cases k3 : x.kind = 3
  · have HK : Hid (hasNB x.kind = true) := decide_eq_true (by omega)
    have e3 : (x.kind == 3) = true := by simp [k3]
    clear k3
    go_wp2
    go_ret
    exact ⟨ret_bool HK.out.symm, HY.out⟩
  have e3 : (x.kind == 3) = false := beq_eq_false_iff_ne.2 k3
  by_cases k4 : x.kind = 4
  · have HK : Hid (hasNB x.kind = true) := decide_eq_true (by omega)
    have e4 : (x.kind == 4) = true := by simp [k4]
    clear k4
    go_wp2
    go_ret
    exact ⟨ret_bool HK.out.symm, HY.out⟩
  have e4 : (x.kind == 4) = false := beq_eq_false_iff_ne.2 k4
  by_cases k5 : x.kind = 5
  · have HK : Hid (hasNB x.kind = true) := decide_eq_true (by omega)
    have e5 : (x.kind == 5) = true := by simp [k5]
    clear k5
    go_wp2
    go_ret
    exact ⟨ret_bool HK.out.symm, HY.out⟩
  have e5 : (x.kind == 5) = false := beq_eq_false_iff_ne.2 k5
  have HE : Hid (hasNB x.kind = false) := decide_eq_false (by omega)
  clear k3; clear k4; clear k5
  go_wp2
  go_ret
  exact ⟨ret_bool HE.out.symm, HY.out⟩
set_option maxHeartbeats 1000000 in
theorem hasCode_any (x : MsgQ) (w : World) : Calls Try.prog 19 #[.agg #[.int .i64 x.kind, .int .i64 x.frm, .int .i64 x.dst, .int .u64 x.num, .int .i64 x.node, .int .u64 x.life, .int .i64 x.n, .int .i64 x.op, .string x.key, .string x.val, .bool x.has, .int .i64 x.code]] w fun e w' => e = .returned (.bool (hasCodeB x.kind)) ∧ Below w.heap.size w w' := by
  have HA : Hid (Blk (w.alloc (.cells #[.int .i64 x.kind, .int .i64 x.frm, .int .i64 x.dst, .int .u64 x.num, .int .i64 x.node, .int .u64 x.life, .int .i64 x.n, .int .i64 x.op, .string x.key, .string x.val, .bool x.has, .int .i64 x.code] 27)) w.heap.size #[.int .i64 x.kind, .int .i64 x.frm, .int .i64 x.dst, .int .u64 x.num, .int .i64 x.node, .int .u64 x.life, .int .i64 x.n, .int .i64 x.op, .string x.key, .string x.val, .bool x.has, .int .i64 x.code] 27) := Blk.new _ _ _
  have HY : Hid (Below w.heap.size w (w.alloc (.cells #[.int .i64 x.kind, .int .i64 x.frm, .int .i64 x.dst, .int .u64 x.num, .int .i64 x.node, .int .u64 x.life, .int .i64 x.n, .int .i64 x.op, .string x.key, .string x.val, .bool x.has, .int .i64 x.code] 27))) := (Below.refl _ _).alloc (Nat.le_refl _) _
  go_enter Try.func19, Try.ntmps19
  go_upto_region 1 with fail
  generalize w.alloc (.cells #[.int .i64 x.kind, .int .i64 x.frm, .int .i64 x.dst, .int .u64 x.num, .int .i64 x.node, .int .u64 x.life, .int .i64 x.n, .int .i64 x.op, .string x.key, .string x.val, .bool x.has, .int .i64 x.code] 27) = w0 at *
  have z0 : w0.cell? ⟨w.heap.size, 0, none⟩ = some (.int .i64 x.kind) := HA.out.cell 0
  clear HA
  by_cases k4 : x.kind = 4
  · have HK : Hid (hasCodeB x.kind = true) := decide_eq_true (by omega)
    have e4 : (x.kind == 4) = true := by simp [k4]
    clear k4
    go_wp2
    go_ret
    exact ⟨ret_bool HK.out.symm, HY.out⟩
  have e4 : (x.kind == 4) = false := beq_eq_false_iff_ne.2 k4
  by_cases k6 : x.kind = 6
  · have HK : Hid (hasCodeB x.kind = true) := decide_eq_true (by omega)
    have e6 : (x.kind == 6) = true := by simp [k6]
    clear k6
    go_wp2
    go_ret
    exact ⟨ret_bool HK.out.symm, HY.out⟩
  have e6 : (x.kind == 6) = false := beq_eq_false_iff_ne.2 k6
  have HE : Hid (hasCodeB x.kind = false) := decide_eq_false (by omega)
  clear k4; clear k6
  go_wp2
  go_ret
  exact ⟨ret_bool HE.out.symm, HY.out⟩
theorem isNode_any (n : Int) (w : World) : Calls Try.prog 21 #[.int .i64 n] w fun e w' => e = .returned (.bool (nodeB n)) ∧ w' = w := by
  unfold nodeB
  go_enter Try.func21, Try.ntmps21
  by_cases h0 : 0 ≤ n
  · go_wp2
    go_ret
    exact ⟨ret_bool (by simp [h0]), rfl⟩
  · go_wp2
    go_ret
    exact ⟨ret_bool (by rw [decide_eq_false (p := 0 ≤ n) (by omega)]; rfl), rfl⟩
theorem keyRight_any (s : ByteArray) (w : World) (hs : s.size ≤ 9223372036854775807) : Calls Try.prog 36 #[.string s] w fun e w' => e = .returned (.int .i64 (if s.size = 0 then 1 else if 24 < s.size then 7 else 0)) ∧ w' = w := by
  go_enter Try.func36, Try.ntmps36
  by_cases h0 : s.size = 0
  · have h1 : ((s.size : Int) == 0) = true := by simp [h0]
    go_wp2
    go_ret
    exact ⟨by simp [h0], rfl⟩
  · have h1 : ((s.size : Int) == 0) = false := beq_eq_false_iff_ne.2 (by omega)
    by_cases h2 : 24 < s.size
    · go_wp2
      go_ret
      exact ⟨by simp [h0, h2], rfl⟩
    · go_wp2
      go_ret
      exact ⟨by simp [h0, h2], rfl⟩
theorem keyValue_any (s : ByteArray) (w : World) (hs : s.size ≤ 9223372036854775807) : Calls Try.prog 37 #[.string s] w fun e w' => e = .returned (.int .i64 (if 48 < s.size then 7 else 0)) ∧ w' = w := by
  go_enter Try.func37, Try.ntmps37
  by_cases h2 : 48 < s.size
  · go_wp2
    go_ret
    exact ⟨by simp [h2], rfl⟩
  · go_wp2
    go_ret
    exact ⟨by simp [h2], rfl⟩
set_option maxHeartbeats 1000000 in
theorem rightLife_any (x : MsgQ) (w : World) : Calls Try.prog 22 #[.agg #[.int .i64 x.kind, .int .i64 x.frm, .int .i64 x.dst, .int .u64 x.num, .int .i64 x.node, .int .u64 x.life, .int .i64 x.n, .int .i64 x.op, .string x.key, .string x.val, .bool x.has, .int .i64 x.code]] w fun e w' => e = .returned (.bool (lifeOk x)) ∧ Below w.heap.size w w' := by
  have HA : Hid (Blk (w.alloc (.cells #[.int .i64 x.kind, .int .i64 x.frm, .int .i64 x.dst, .int .u64 x.num, .int .i64 x.node, .int .u64 x.life, .int .i64 x.n, .int .i64 x.op, .string x.key, .string x.val, .bool x.has, .int .i64 x.code] 27)) w.heap.size #[.int .i64 x.kind, .int .i64 x.frm, .int .i64 x.dst, .int .u64 x.num, .int .i64 x.node, .int .u64 x.life, .int .i64 x.n, .int .i64 x.op, .string x.key, .string x.val, .bool x.has, .int .i64 x.code] 27) := Blk.new _ _ _
  have HY : Hid (Below w.heap.size w (w.alloc (.cells #[.int .i64 x.kind, .int .i64 x.frm, .int .i64 x.dst, .int .u64 x.num, .int .i64 x.node, .int .u64 x.life, .int .i64 x.n, .int .i64 x.op, .string x.key, .string x.val, .bool x.has, .int .i64 x.code] 27))) := (Below.refl _ _).alloc (Nat.le_refl _) _
  go_enter Try.func22, Try.ntmps22
  go_upto_region 1 with fail
  generalize w.alloc (.cells #[.int .i64 x.kind, .int .i64 x.frm, .int .i64 x.dst, .int .u64 x.num, .int .i64 x.node, .int .u64 x.life, .int .i64 x.n, .int .i64 x.op, .string x.key, .string x.val, .bool x.has, .int .i64 x.code] 27) = w0 at *
  have z0 : w0.cell? ⟨w.heap.size, 0, none⟩ = some (.int .i64 x.kind) := HA.out.cell 0
  have z1 : w0.cell? ⟨w.heap.size, 1, none⟩ = some (.int .i64 x.frm) := HA.out.cell 1
  have z2 : w0.cell? ⟨w.heap.size, 2, none⟩ = some (.int .i64 x.dst) := HA.out.cell 2
  have z3 : w0.cell? ⟨w.heap.size, 3, none⟩ = some (.int .u64 x.num) := HA.out.cell 3
  have z4 : w0.cell? ⟨w.heap.size, 4, none⟩ = some (.int .i64 x.node) := HA.out.cell 4
  have z5 : w0.cell? ⟨w.heap.size, 5, none⟩ = some (.int .u64 x.life) := HA.out.cell 5
  have z6 : w0.cell? ⟨w.heap.size, 6, none⟩ = some (.int .i64 x.n) := HA.out.cell 6
  have z7 : w0.cell? ⟨w.heap.size, 7, none⟩ = some (.int .i64 x.op) := HA.out.cell 7
  have z8 : w0.cell? ⟨w.heap.size, 8, none⟩ = some (.string x.key) := HA.out.cell 8
  have z9 : w0.cell? ⟨w.heap.size, 9, none⟩ = some (.string x.val) := HA.out.cell 9
  have z10 : w0.cell? ⟨w.heap.size, 10, none⟩ = some (.bool x.has) := HA.out.cell 10
  have z11 : w0.cell? ⟨w.heap.size, 11, none⟩ = some (.int .i64 x.code) := HA.out.cell 11
  by_cases h0 : x.life = 0
  · have HK : Hid (lifeOk x = true) := decide_eq_true (.inl h0)
    have e0 : (x.life == 0) = true := by simp [h0]
    clear h0 HA
    go_wp2
    go_ret
    exact ⟨ret_bool HK.out.symm, HY.out⟩
  have e0 : (x.life == 0) = false := beq_eq_false_iff_ne.2 h0
  have H0 : Hid (x.life ≠ 0) := h0
  clear h0
  go_wp2_with fail
  refine (hasLife_any x _).mono ?_
  rintro e w1 ⟨rfl, y⟩
  have HA1 : Hid (Blk w1 w.heap.size #[.int .i64 x.kind, .int .i64 x.frm, .int .i64 x.dst, .int .u64 x.num, .int .i64 x.node, .int .u64 x.life, .int .i64 x.n, .int .i64 x.op, .string x.key, .string x.val, .bool x.has, .int .i64 x.code] 27) := Blk.of HA.out (y.block _ HA.out.lt)
  have HY1 : Hid (Below w.heap.size w w1) := HY.out.trans (y.mono HY.out.size)
  clear y HA HY z0 z1 z2 z3 z4 z5 z6 z7 z8 z9 z10 z11
  have z5 : w1.cell? ⟨w.heap.size, 5, none⟩ = some (.int .u64 x.life) := HA1.out.cell 5
  cases hh : hasLifeB x.kind with
  | false =>
    have HK : Hid (lifeOk x = false) := decide_eq_false (by have := H0.out; simp [hh, this])
    clear hh
    go_wp2
    go_ret
    exact ⟨ret_bool (by rw [HK.out]; try exact decide_eq_false (by omega)), HY1.out⟩
  | true =>
    have HH : Hid (hasLifeB x.kind = true) := hh
    clear hh
    by_cases h2 : x.life ≤ 1099511627776
    · have HK : Hid (lifeOk x = true) := decide_eq_true (.inr ⟨HH.out, h2⟩)
      go_wp2
      go_ret
      exact ⟨ret_bool (by rw [HK.out]; try exact decide_eq_false (by omega)), HY1.out⟩
    · have HK : Hid (lifeOk x = false) := decide_eq_false (by have := H0.out; omega)
      go_wp2
      go_ret
      exact ⟨ret_bool (by rw [HK.out]; try exact decide_eq_false (by omega)), HY1.out⟩
set_option maxHeartbeats 1000000 in
theorem rightN_any (x : MsgQ) (w : World) : Calls Try.prog 23 #[.agg #[.int .i64 x.kind, .int .i64 x.frm, .int .i64 x.dst, .int .u64 x.num, .int .i64 x.node, .int .u64 x.life, .int .i64 x.n, .int .i64 x.op, .string x.key, .string x.val, .bool x.has, .int .i64 x.code]] w fun e w' => e = .returned (.bool (nOk x)) ∧ Below w.heap.size w w' := by
  have HA : Hid (Blk (w.alloc (.cells #[.int .i64 x.kind, .int .i64 x.frm, .int .i64 x.dst, .int .u64 x.num, .int .i64 x.node, .int .u64 x.life, .int .i64 x.n, .int .i64 x.op, .string x.key, .string x.val, .bool x.has, .int .i64 x.code] 27)) w.heap.size #[.int .i64 x.kind, .int .i64 x.frm, .int .i64 x.dst, .int .u64 x.num, .int .i64 x.node, .int .u64 x.life, .int .i64 x.n, .int .i64 x.op, .string x.key, .string x.val, .bool x.has, .int .i64 x.code] 27) := Blk.new _ _ _
  have HY : Hid (Below w.heap.size w (w.alloc (.cells #[.int .i64 x.kind, .int .i64 x.frm, .int .i64 x.dst, .int .u64 x.num, .int .i64 x.node, .int .u64 x.life, .int .i64 x.n, .int .i64 x.op, .string x.key, .string x.val, .bool x.has, .int .i64 x.code] 27))) := (Below.refl _ _).alloc (Nat.le_refl _) _
  go_enter Try.func23, Try.ntmps23
  go_upto_region 1 with fail
  generalize w.alloc (.cells #[.int .i64 x.kind, .int .i64 x.frm, .int .i64 x.dst, .int .u64 x.num, .int .i64 x.node, .int .u64 x.life, .int .i64 x.n, .int .i64 x.op, .string x.key, .string x.val, .bool x.has, .int .i64 x.code] 27) = w0 at *
  have z0 : w0.cell? ⟨w.heap.size, 0, none⟩ = some (.int .i64 x.kind) := HA.out.cell 0
  have z1 : w0.cell? ⟨w.heap.size, 1, none⟩ = some (.int .i64 x.frm) := HA.out.cell 1
  have z2 : w0.cell? ⟨w.heap.size, 2, none⟩ = some (.int .i64 x.dst) := HA.out.cell 2
  have z3 : w0.cell? ⟨w.heap.size, 3, none⟩ = some (.int .u64 x.num) := HA.out.cell 3
  have z4 : w0.cell? ⟨w.heap.size, 4, none⟩ = some (.int .i64 x.node) := HA.out.cell 4
  have z5 : w0.cell? ⟨w.heap.size, 5, none⟩ = some (.int .u64 x.life) := HA.out.cell 5
  have z6 : w0.cell? ⟨w.heap.size, 6, none⟩ = some (.int .i64 x.n) := HA.out.cell 6
  have z7 : w0.cell? ⟨w.heap.size, 7, none⟩ = some (.int .i64 x.op) := HA.out.cell 7
  have z8 : w0.cell? ⟨w.heap.size, 8, none⟩ = some (.string x.key) := HA.out.cell 8
  have z9 : w0.cell? ⟨w.heap.size, 9, none⟩ = some (.string x.val) := HA.out.cell 9
  have z10 : w0.cell? ⟨w.heap.size, 10, none⟩ = some (.bool x.has) := HA.out.cell 10
  have z11 : w0.cell? ⟨w.heap.size, 11, none⟩ = some (.int .i64 x.code) := HA.out.cell 11
  by_cases h0 : x.n = 0
  · have HK : Hid (nOk x = true) := decide_eq_true (.inl h0)
    have e0 : (x.n == 0) = true := by simp [h0]
    clear h0 HA
    go_wp2
    go_ret
    exact ⟨ret_bool HK.out.symm, HY.out⟩
  have e0 : (x.n == 0) = false := beq_eq_false_iff_ne.2 h0
  have H0 : Hid (x.n ≠ 0) := h0
  clear h0
  go_wp2_with fail
  refine (hasN_any x _).mono ?_
  rintro e w1 ⟨rfl, y⟩
  have HA1 : Hid (Blk w1 w.heap.size #[.int .i64 x.kind, .int .i64 x.frm, .int .i64 x.dst, .int .u64 x.num, .int .i64 x.node, .int .u64 x.life, .int .i64 x.n, .int .i64 x.op, .string x.key, .string x.val, .bool x.has, .int .i64 x.code] 27) := Blk.of HA.out (y.block _ HA.out.lt)
  have HY1 : Hid (Below w.heap.size w w1) := HY.out.trans (y.mono HY.out.size)
  clear y HA HY z0 z1 z2 z3 z4 z5 z6 z7 z8 z9 z10 z11
  have z6 : w1.cell? ⟨w.heap.size, 6, none⟩ = some (.int .i64 x.n) := HA1.out.cell 6
  cases hh : hasNB x.kind with
  | false =>
    have HK : Hid (nOk x = false) := decide_eq_false (by have := H0.out; simp [hh, this])
    clear hh
    go_wp2
    go_ret
    exact ⟨ret_bool (by rw [HK.out]; try exact decide_eq_false (by omega)), HY1.out⟩
  | true =>
    have HH : Hid (hasNB x.kind = true) := hh
    clear hh
    by_cases h1 : 0 < x.n
    · by_cases h2 : x.n ≤ 1048576
      · have HK : Hid (nOk x = true) := decide_eq_true (.inr ⟨HH.out, h1, h2⟩)
        go_wp2
        go_ret
        exact ⟨ret_bool (by rw [HK.out]; try exact decide_eq_false (by omega)), HY1.out⟩
      · have HK : Hid (nOk x = false) := decide_eq_false (by have := H0.out; omega)
        go_wp2
        go_ret
        exact ⟨ret_bool (by rw [HK.out]; try exact decide_eq_false (by omega)), HY1.out⟩
    · have HK : Hid (nOk x = false) := decide_eq_false (by have := H0.out; omega)
      go_wp2
      go_ret
      exact ⟨ret_bool (by rw [HK.out]; try exact decide_eq_false (by omega)), HY1.out⟩
set_option maxHeartbeats 1000000 in
theorem rightCode_any (x : MsgQ) (w : World) : Calls Try.prog 26 #[.agg #[.int .i64 x.kind, .int .i64 x.frm, .int .i64 x.dst, .int .u64 x.num, .int .i64 x.node, .int .u64 x.life, .int .i64 x.n, .int .i64 x.op, .string x.key, .string x.val, .bool x.has, .int .i64 x.code]] w fun e w' => e = .returned (.bool (codeOk x)) ∧ Below w.heap.size w w' := by
  have HA : Hid (Blk (w.alloc (.cells #[.int .i64 x.kind, .int .i64 x.frm, .int .i64 x.dst, .int .u64 x.num, .int .i64 x.node, .int .u64 x.life, .int .i64 x.n, .int .i64 x.op, .string x.key, .string x.val, .bool x.has, .int .i64 x.code] 27)) w.heap.size #[.int .i64 x.kind, .int .i64 x.frm, .int .i64 x.dst, .int .u64 x.num, .int .i64 x.node, .int .u64 x.life, .int .i64 x.n, .int .i64 x.op, .string x.key, .string x.val, .bool x.has, .int .i64 x.code] 27) := Blk.new _ _ _
  have HY : Hid (Below w.heap.size w (w.alloc (.cells #[.int .i64 x.kind, .int .i64 x.frm, .int .i64 x.dst, .int .u64 x.num, .int .i64 x.node, .int .u64 x.life, .int .i64 x.n, .int .i64 x.op, .string x.key, .string x.val, .bool x.has, .int .i64 x.code] 27))) := (Below.refl _ _).alloc (Nat.le_refl _) _
  go_enter Try.func26, Try.ntmps26
  go_upto_region 1 with fail
  generalize w.alloc (.cells #[.int .i64 x.kind, .int .i64 x.frm, .int .i64 x.dst, .int .u64 x.num, .int .i64 x.node, .int .u64 x.life, .int .i64 x.n, .int .i64 x.op, .string x.key, .string x.val, .bool x.has, .int .i64 x.code] 27) = w0 at *
  have z0 : w0.cell? ⟨w.heap.size, 0, none⟩ = some (.int .i64 x.kind) := HA.out.cell 0
  have z1 : w0.cell? ⟨w.heap.size, 1, none⟩ = some (.int .i64 x.frm) := HA.out.cell 1
  have z2 : w0.cell? ⟨w.heap.size, 2, none⟩ = some (.int .i64 x.dst) := HA.out.cell 2
  have z3 : w0.cell? ⟨w.heap.size, 3, none⟩ = some (.int .u64 x.num) := HA.out.cell 3
  have z4 : w0.cell? ⟨w.heap.size, 4, none⟩ = some (.int .i64 x.node) := HA.out.cell 4
  have z5 : w0.cell? ⟨w.heap.size, 5, none⟩ = some (.int .u64 x.life) := HA.out.cell 5
  have z6 : w0.cell? ⟨w.heap.size, 6, none⟩ = some (.int .i64 x.n) := HA.out.cell 6
  have z7 : w0.cell? ⟨w.heap.size, 7, none⟩ = some (.int .i64 x.op) := HA.out.cell 7
  have z8 : w0.cell? ⟨w.heap.size, 8, none⟩ = some (.string x.key) := HA.out.cell 8
  have z9 : w0.cell? ⟨w.heap.size, 9, none⟩ = some (.string x.val) := HA.out.cell 9
  have z10 : w0.cell? ⟨w.heap.size, 10, none⟩ = some (.bool x.has) := HA.out.cell 10
  have z11 : w0.cell? ⟨w.heap.size, 11, none⟩ = some (.int .i64 x.code) := HA.out.cell 11
  by_cases h0 : x.code = 0
  · have HK : Hid (codeOk x = true) := decide_eq_true (.inl h0)
    have e0 : (x.code == 0) = true := by simp [h0]
    clear h0 HA
    go_wp2
    go_ret
    exact ⟨ret_bool HK.out.symm, HY.out⟩
  have e0 : (x.code == 0) = false := beq_eq_false_iff_ne.2 h0
  have H0 : Hid (x.code ≠ 0) := h0
  clear h0
  go_wp2_with fail
  refine (hasCode_any x _).mono ?_
  rintro e w1 ⟨rfl, y⟩
  have HA1 : Hid (Blk w1 w.heap.size #[.int .i64 x.kind, .int .i64 x.frm, .int .i64 x.dst, .int .u64 x.num, .int .i64 x.node, .int .u64 x.life, .int .i64 x.n, .int .i64 x.op, .string x.key, .string x.val, .bool x.has, .int .i64 x.code] 27) := Blk.of HA.out (y.block _ HA.out.lt)
  have HY1 : Hid (Below w.heap.size w w1) := HY.out.trans (y.mono HY.out.size)
  clear y HA HY z0 z1 z2 z3 z4 z5 z6 z7 z8 z9 z10 z11
  have z11 : w1.cell? ⟨w.heap.size, 11, none⟩ = some (.int .i64 x.code) := HA1.out.cell 11
  cases hh : hasCodeB x.kind with
  | false =>
    have HK : Hid (codeOk x = false) := decide_eq_false (by have := H0.out; simp [hh, this])
    clear hh
    go_wp2
    go_ret
    exact ⟨ret_bool (by rw [HK.out]; try exact decide_eq_false (by omega)), HY1.out⟩
  | true =>
    have HH : Hid (hasCodeB x.kind = true) := hh
    clear hh
    by_cases h1 : 0 < x.code
    · by_cases h2 : x.code ≤ 17
      · have HK : Hid (codeOk x = true) := decide_eq_true (.inr ⟨HH.out, h1, h2⟩)
        go_wp2
        go_ret
        exact ⟨ret_bool (by rw [HK.out]; try exact decide_eq_false (by omega)), HY1.out⟩
      · have HK : Hid (codeOk x = false) := decide_eq_false (by have := H0.out; omega)
        go_wp2
        go_ret
        exact ⟨ret_bool (by rw [HK.out]; try exact decide_eq_false (by omega)), HY1.out⟩
    · have HK : Hid (codeOk x = false) := decide_eq_false (by have := H0.out; omega)
      go_wp2
      go_ret
      exact ⟨ret_bool (by rw [HK.out]; try exact decide_eq_false (by omega)), HY1.out⟩
set_option maxHeartbeats 1000000 in
theorem rightDeed_any (x : MsgQ) (w : World) (hk : x.key.size ≤ 9223372036854775807) : Calls Try.prog 24 #[.agg #[.int .i64 x.kind, .int .i64 x.frm, .int .i64 x.dst, .int .u64 x.num, .int .i64 x.node, .int .u64 x.life, .int .i64 x.n, .int .i64 x.op, .string x.key, .string x.val, .bool x.has, .int .i64 x.code]] w fun e w' => e = .returned (.bool (deedOk x)) ∧ Below w.heap.size w w' := by
  have HA : Hid (Blk (w.alloc (.cells #[.int .i64 x.kind, .int .i64 x.frm, .int .i64 x.dst, .int .u64 x.num, .int .i64 x.node, .int .u64 x.life, .int .i64 x.n, .int .i64 x.op, .string x.key, .string x.val, .bool x.has, .int .i64 x.code] 27)) w.heap.size #[.int .i64 x.kind, .int .i64 x.frm, .int .i64 x.dst, .int .u64 x.num, .int .i64 x.node, .int .u64 x.life, .int .i64 x.n, .int .i64 x.op, .string x.key, .string x.val, .bool x.has, .int .i64 x.code] 27) := Blk.new _ _ _
  have HY : Hid (Below w.heap.size w (w.alloc (.cells #[.int .i64 x.kind, .int .i64 x.frm, .int .i64 x.dst, .int .u64 x.num, .int .i64 x.node, .int .u64 x.life, .int .i64 x.n, .int .i64 x.op, .string x.key, .string x.val, .bool x.has, .int .i64 x.code] 27))) := (Below.refl _ _).alloc (Nat.le_refl _) _
  go_enter Try.func24, Try.ntmps24
  go_upto_region 1 with fail
  generalize w.alloc (.cells #[.int .i64 x.kind, .int .i64 x.frm, .int .i64 x.dst, .int .u64 x.num, .int .i64 x.node, .int .u64 x.life, .int .i64 x.n, .int .i64 x.op, .string x.key, .string x.val, .bool x.has, .int .i64 x.code] 27) = w0 at *
  have z0 : w0.cell? ⟨w.heap.size, 0, none⟩ = some (.int .i64 x.kind) := HA.out.cell 0
  have z7 : w0.cell? ⟨w.heap.size, 7, none⟩ = some (.int .i64 x.op) := HA.out.cell 7
  have z8 : w0.cell? ⟨w.heap.size, 8, none⟩ = some (.string x.key) := HA.out.cell 8
  clear HA
  by_cases k3 : x.kind = 3
  · have HD : Hid (deedOk x = decide (1 ≤ x.op ∧ x.op ≤ 3 ∧ x.key.size ≠ 0 ∧ x.key.size ≤ 24)) := if_pos k3
    have e3 : (x.kind != 3) = false := by simp [k3]
    clear k3
    by_cases h1 : 1 ≤ x.op
    · by_cases h2 : x.op ≤ 3
      · go_wp2_with fail
        refine (keyRight_any x.key _ hk).mono ?_
        rintro e w1 ⟨rfl, hw⟩
        subst hw
        by_cases h0 : x.key.size = 0
        · have HK : Hid (deedOk x = false) := by rw [HD.out]; exact decide_eq_false (by omega)
          rw [if_pos h0]
          clear h0
          go_wp2
          go_ret
          exact ⟨ret_bool (by rw [HK.out]), HY.out⟩
        · rw [if_neg h0]
          by_cases h24 : 24 < x.key.size
          · have HK : Hid (deedOk x = false) := by rw [HD.out]; exact decide_eq_false (by omega)
            rw [if_pos h24]
            go_wp2
            go_ret
            exact ⟨ret_bool (by rw [HK.out]), HY.out⟩
          · have HK : Hid (deedOk x = true) := by rw [HD.out]; exact decide_eq_true (by omega)
            rw [if_neg h24]
            go_wp2
            go_ret
            exact ⟨ret_bool (by rw [HK.out]), HY.out⟩
      · have HK : Hid (deedOk x = false) := by rw [HD.out]; exact decide_eq_false (by omega)
        go_wp2
        go_ret
        exact ⟨ret_bool (by rw [HK.out]; try exact decide_eq_false (by omega)), HY.out⟩
    · have HK : Hid (deedOk x = false) := by rw [HD.out]; exact decide_eq_false (by omega)
      go_wp2
      go_ret
      exact ⟨ret_bool (by rw [HK.out]; try exact decide_eq_false (by omega)), HY.out⟩
  · have HD : Hid (deedOk x = decide (x.op = 0 ∧ x.key.size = 0)) := if_neg k3
    have e3 : (x.kind != 3) = true := by simp [k3]
    clear k3
    by_cases h1 : x.op = 0
    · have e1 : (x.op == 0) = true := by simp [h1]
      by_cases h0 : x.key.size = 0
      · have HK : Hid (deedOk x = true) := by rw [HD.out]; exact decide_eq_true ⟨h1, h0⟩
        have hx : x.key.toList.isEmpty = true := by rw [empty_of h0]; kernel_rfl
        clear h1 h0
        go_wp2
        go_ret
        exact ⟨ret_bool (by rw [HK.out]), HY.out⟩
      · have HK : Hid (deedOk x = false) := by rw [HD.out]; exact decide_eq_false (by omega)
        have hx : x.key.toList.isEmpty = false := Bool.eq_false_iff.2 fun e => h0 (by rw [empty_eq e]; rfl)
        clear h1 h0
        go_wp2
        go_ret
        exact ⟨ret_bool (by rw [HK.out]), HY.out⟩
    · have HK : Hid (deedOk x = false) := by rw [HD.out]; exact decide_eq_false (by omega)
      have e1 : (x.op == 0) = false := beq_eq_false_iff_ne.2 h1
      clear h1
      go_wp2
      go_ret
      exact ⟨ret_bool (by rw [HK.out]), HY.out⟩
set_option maxHeartbeats 1000000 in
theorem rightVal_any (x : MsgQ) (w : World) (hk : x.val.size ≤ 9223372036854775807) : Calls Try.prog 25 #[.agg #[.int .i64 x.kind, .int .i64 x.frm, .int .i64 x.dst, .int .u64 x.num, .int .i64 x.node, .int .u64 x.life, .int .i64 x.n, .int .i64 x.op, .string x.key, .string x.val, .bool x.has, .int .i64 x.code]] w fun e w' => e = .returned (.bool (valOk x)) ∧ Below w.heap.size w w' := by
  have HA : Hid (Blk (w.alloc (.cells #[.int .i64 x.kind, .int .i64 x.frm, .int .i64 x.dst, .int .u64 x.num, .int .i64 x.node, .int .u64 x.life, .int .i64 x.n, .int .i64 x.op, .string x.key, .string x.val, .bool x.has, .int .i64 x.code] 27)) w.heap.size #[.int .i64 x.kind, .int .i64 x.frm, .int .i64 x.dst, .int .u64 x.num, .int .i64 x.node, .int .u64 x.life, .int .i64 x.n, .int .i64 x.op, .string x.key, .string x.val, .bool x.has, .int .i64 x.code] 27) := Blk.new _ _ _
  have HY : Hid (Below w.heap.size w (w.alloc (.cells #[.int .i64 x.kind, .int .i64 x.frm, .int .i64 x.dst, .int .u64 x.num, .int .i64 x.node, .int .u64 x.life, .int .i64 x.n, .int .i64 x.op, .string x.key, .string x.val, .bool x.has, .int .i64 x.code] 27))) := (Below.refl _ _).alloc (Nat.le_refl _) _
  go_enter Try.func25, Try.ntmps25
  go_upto_region 1 with fail
  generalize w.alloc (.cells #[.int .i64 x.kind, .int .i64 x.frm, .int .i64 x.dst, .int .u64 x.num, .int .i64 x.node, .int .u64 x.life, .int .i64 x.n, .int .i64 x.op, .string x.key, .string x.val, .bool x.has, .int .i64 x.code] 27) = w0 at *
  have z0 : w0.cell? ⟨w.heap.size, 0, none⟩ = some (.int .i64 x.kind) := HA.out.cell 0
  have z7 : w0.cell? ⟨w.heap.size, 7, none⟩ = some (.int .i64 x.op) := HA.out.cell 7
  have z9 : w0.cell? ⟨w.heap.size, 9, none⟩ = some (.string x.val) := HA.out.cell 9
  have z10 : w0.cell? ⟨w.heap.size, 10, none⟩ = some (.bool x.has) := HA.out.cell 10
  clear HA
  have HD : Hid (valOk x = decide ((x.has = false ∨ x.kind = 4) ∧ (x.val.size = 0 ∨ ((x.kind = 3 ∧ x.op = 2) ∨ x.has = true) ∧ x.val.size ≤ 48))) := rfl
  obtain ⟨hv, hh⟩ : ∃ b, x.has = b := ⟨_, rfl⟩
  rw [hh] at z10
  cases hv with
  | false =>
    by_cases p3 : x.kind = 3
    · have e3 : (x.kind == 3) = true := by simp [p3]
      have e4 : (x.kind == 4) = false := beq_eq_false_iff_ne.2 (by omega)
      by_cases p2 : x.op = 2
      · have e2 : (x.op == 2) = true := by simp [p2]
        by_cases pv : x.val.size = 0
        · have ev : x.val.toList.isEmpty = true := by rw [empty_of pv]; kernel_rfl
          have HK : Hid (valOk x = true) := by rw [HD.out]; exact decide_eq_true (by simp only [hh, eq_self, reduceCtorEq, true_or, or_true, false_or, or_false, true_and, and_true]; try omega)
          clear p3 p2 pv hh
          go_wp2
          go_ret
          exact ⟨ret_bool (by rw [HK.out]), HY.out⟩
        · have ev : x.val.toList.isEmpty = false := Bool.eq_false_iff.2 fun e => pv (by rw [empty_eq e]; rfl)
          by_cases p48 : 48 < x.val.size
          · have HK : Hid (valOk x = false) := by rw [HD.out]; exact decide_eq_false (by simp only [hh, eq_self, reduceCtorEq, true_or, or_true, false_or, or_false, true_and, and_true]; try omega)
            have HV : Hid (Calls Try.prog 37 #[.string x.val] w0 fun e w' => e = .returned (.int .i64 7) ∧ w' = w0) := by have := keyValue_any x.val w0 hk; rw [if_pos p48] at this; exact this
            clear p3 p2 hh pv p48
            go_wp2_with fail
            refine HV.out.mono ?_
            rintro e w1 ⟨rfl, hw⟩
            subst hw
            go_wp2
            go_ret
            exact ⟨ret_bool (by rw [HK.out]), HY.out⟩
          · have HK : Hid (valOk x = true) := by rw [HD.out]; exact decide_eq_true (by simp only [hh, eq_self, reduceCtorEq, true_or, or_true, false_or, or_false, true_and, and_true]; try omega)
            have HV : Hid (Calls Try.prog 37 #[.string x.val] w0 fun e w' => e = .returned (.int .i64 0) ∧ w' = w0) := by have := keyValue_any x.val w0 hk; rw [if_neg p48] at this; exact this
            clear p3 p2 hh pv p48
            go_wp2_with fail
            refine HV.out.mono ?_
            rintro e w1 ⟨rfl, hw⟩
            subst hw
            go_wp2
            go_ret
            exact ⟨ret_bool (by rw [HK.out]), HY.out⟩
      · have e2 : (x.op == 2) = false := beq_eq_false_iff_ne.2 p2
        by_cases pv : x.val.size = 0
        · have ev : x.val.toList.isEmpty = true := by rw [empty_of pv]; kernel_rfl
          have HK : Hid (valOk x = true) := by rw [HD.out]; exact decide_eq_true (by simp only [hh, eq_self, reduceCtorEq, true_or, or_true, false_or, or_false, true_and, and_true]; try omega)
          clear p3 p2 pv hh
          go_wp2
          go_ret
          exact ⟨ret_bool (by rw [HK.out]), HY.out⟩
        · have ev : x.val.toList.isEmpty = false := Bool.eq_false_iff.2 fun e => pv (by rw [empty_eq e]; rfl)
          have HK : Hid (valOk x = false) := by rw [HD.out]; exact decide_eq_false (by simp only [hh, eq_self, reduceCtorEq, true_or, or_true, false_or, or_false, true_and, and_true]; try omega)
          clear p3 p2 pv hh
          go_wp2
          go_ret
          exact ⟨ret_bool (by rw [HK.out]), HY.out⟩
    · have e3 : (x.kind == 3) = false := beq_eq_false_iff_ne.2 p3
      by_cases pv : x.val.size = 0
      · have ev : x.val.toList.isEmpty = true := by rw [empty_of pv]; kernel_rfl
        have HK : Hid (valOk x = true) := by rw [HD.out]; exact decide_eq_true (by simp only [hh, eq_self, reduceCtorEq, true_or, or_true, false_or, or_false, true_and, and_true]; try omega)
        clear p3 pv hh
        go_wp2
        go_ret
        exact ⟨ret_bool (by rw [HK.out]), HY.out⟩
      · have ev : x.val.toList.isEmpty = false := Bool.eq_false_iff.2 fun e => pv (by rw [empty_eq e]; rfl)
        have HK : Hid (valOk x = false) := by rw [HD.out]; exact decide_eq_false (by simp only [hh, eq_self, reduceCtorEq, true_or, or_true, false_or, or_false, true_and, and_true]; try omega)
        clear p3 pv hh
        go_wp2
        go_ret
        exact ⟨ret_bool (by rw [HK.out]), HY.out⟩
  | true =>
    by_cases p3 : x.kind = 3
    · have e3 : (x.kind == 3) = true := by simp [p3]
      have e4 : (x.kind == 4) = false := beq_eq_false_iff_ne.2 (by omega)
      by_cases p2 : x.op = 2
      · have e2 : (x.op == 2) = true := by simp [p2]
        have HK : Hid (valOk x = false) := by rw [HD.out]; exact decide_eq_false (by simp only [hh, eq_self, reduceCtorEq, true_or, or_true, false_or, or_false, true_and, and_true]; try omega)
        clear p3 p2 hh
        go_wp2
        go_ret
        exact ⟨ret_bool (by rw [HK.out]), HY.out⟩
      · have e2 : (x.op == 2) = false := beq_eq_false_iff_ne.2 p2
        have HK : Hid (valOk x = false) := by rw [HD.out]; exact decide_eq_false (by simp only [hh, eq_self, reduceCtorEq, true_or, or_true, false_or, or_false, true_and, and_true]; try omega)
        clear p3 p2 hh
        go_wp2
        go_ret
        exact ⟨ret_bool (by rw [HK.out]), HY.out⟩
    · have e3 : (x.kind == 3) = false := beq_eq_false_iff_ne.2 p3
      by_cases p4 : x.kind = 4
      · have e4 : (x.kind == 4) = true := by simp [p4]
        by_cases pv : x.val.size = 0
        · have ev : x.val.toList.isEmpty = true := by rw [empty_of pv]; kernel_rfl
          have HK : Hid (valOk x = true) := by rw [HD.out]; exact decide_eq_true (by simp only [hh, eq_self, reduceCtorEq, true_or, or_true, false_or, or_false, true_and, and_true]; try omega)
          clear p3 p4 pv hh
          go_wp2
          go_ret
          exact ⟨ret_bool (by rw [HK.out]), HY.out⟩
        · have ev : x.val.toList.isEmpty = false := Bool.eq_false_iff.2 fun e => pv (by rw [empty_eq e]; rfl)
          by_cases p48 : 48 < x.val.size
          · have HK : Hid (valOk x = false) := by rw [HD.out]; exact decide_eq_false (by simp only [hh, eq_self, reduceCtorEq, true_or, or_true, false_or, or_false, true_and, and_true]; try omega)
            have HV : Hid (Calls Try.prog 37 #[.string x.val] w0 fun e w' => e = .returned (.int .i64 7) ∧ w' = w0) := by have := keyValue_any x.val w0 hk; rw [if_pos p48] at this; exact this
            clear p3 p4 hh pv p48
            go_wp2_with fail
            refine HV.out.mono ?_
            rintro e w1 ⟨rfl, hw⟩
            subst hw
            go_wp2
            go_ret
            exact ⟨ret_bool (by rw [HK.out]), HY.out⟩
          · have HK : Hid (valOk x = true) := by rw [HD.out]; exact decide_eq_true (by simp only [hh, eq_self, reduceCtorEq, true_or, or_true, false_or, or_false, true_and, and_true]; try omega)
            have HV : Hid (Calls Try.prog 37 #[.string x.val] w0 fun e w' => e = .returned (.int .i64 0) ∧ w' = w0) := by have := keyValue_any x.val w0 hk; rw [if_neg p48] at this; exact this
            clear p3 p4 hh pv p48
            go_wp2_with fail
            refine HV.out.mono ?_
            rintro e w1 ⟨rfl, hw⟩
            subst hw
            go_wp2
            go_ret
            exact ⟨ret_bool (by rw [HK.out]), HY.out⟩
      · have e4 : (x.kind == 4) = false := beq_eq_false_iff_ne.2 p4
        have HK : Hid (valOk x = false) := by rw [HD.out]; exact decide_eq_false (by simp only [hh, eq_self, reduceCtorEq, true_or, or_true, false_or, or_false, true_and, and_true]; try omega)
        clear p3 p4 hh
        go_wp2
        go_ret
        exact ⟨ret_bool (by rw [HK.out]), HY.out⟩
theorem rightM_parts (x : MsgQ) : rightM x = true ↔ (1 ≤ x.kind ∧ x.kind ≤ 10) ∧ nodeB x.frm = true ∧ nodeB x.dst = true ∧ nodeB x.node = true ∧ x.num ≤ 1099511627776 ∧ lifeOk x = true ∧ nOk x = true ∧ deedOk x = true ∧ valOk x = true ∧ codeOk x = true := by
  unfold rightM headOk
  simp only [Bool.and_eq_true, decide_eq_true_eq, and_assoc]
set_option maxHeartbeats 4000000 in
theorem right15_any (x : MsgQ) (w : World) (hk : x.key.size ≤ 9223372036854775807) (hv : x.val.size ≤ 9223372036854775807) : Calls Try.prog 9 #[.agg #[.int .i64 x.kind, .int .i64 x.frm, .int .i64 x.dst, .int .u64 x.num, .int .i64 x.node, .int .u64 x.life, .int .i64 x.n, .int .i64 x.op, .string x.key, .string x.val, .bool x.has, .int .i64 x.code]] w fun e w' => e = .returned (.bool (rightM x)) ∧ Below w.heap.size w w' := by
  have HA : Hid (Blk (w.alloc (.cells #[.int .i64 x.kind, .int .i64 x.frm, .int .i64 x.dst, .int .u64 x.num, .int .i64 x.node, .int .u64 x.life, .int .i64 x.n, .int .i64 x.op, .string x.key, .string x.val, .bool x.has, .int .i64 x.code] 27)) w.heap.size #[.int .i64 x.kind, .int .i64 x.frm, .int .i64 x.dst, .int .u64 x.num, .int .i64 x.node, .int .u64 x.life, .int .i64 x.n, .int .i64 x.op, .string x.key, .string x.val, .bool x.has, .int .i64 x.code] 27) := Blk.new _ _ _
  have HY : Hid (Below w.heap.size w (w.alloc (.cells #[.int .i64 x.kind, .int .i64 x.frm, .int .i64 x.dst, .int .u64 x.num, .int .i64 x.node, .int .u64 x.life, .int .i64 x.n, .int .i64 x.op, .string x.key, .string x.val, .bool x.has, .int .i64 x.code] 27))) := (Below.refl _ _).alloc (Nat.le_refl _) _
  go_enter Try.func9, Try.ntmps9
  go_upto_region 1 with fail
  generalize w.alloc (.cells #[.int .i64 x.kind, .int .i64 x.frm, .int .i64 x.dst, .int .u64 x.num, .int .i64 x.node, .int .u64 x.life, .int .i64 x.n, .int .i64 x.op, .string x.key, .string x.val, .bool x.has, .int .i64 x.code] 27) = w0 at *
  have z0 : w0.cell? ⟨w.heap.size, 0, none⟩ = some (.int .i64 x.kind) := HA.out.cell 0
  have z1 : w0.cell? ⟨w.heap.size, 1, none⟩ = some (.int .i64 x.frm) := HA.out.cell 1
  have z2 : w0.cell? ⟨w.heap.size, 2, none⟩ = some (.int .i64 x.dst) := HA.out.cell 2
  have z3 : w0.cell? ⟨w.heap.size, 3, none⟩ = some (.int .u64 x.num) := HA.out.cell 3
  have z4 : w0.cell? ⟨w.heap.size, 4, none⟩ = some (.int .i64 x.node) := HA.out.cell 4
  have z5 : w0.cell? ⟨w.heap.size, 5, none⟩ = some (.int .u64 x.life) := HA.out.cell 5
  have z6 : w0.cell? ⟨w.heap.size, 6, none⟩ = some (.int .i64 x.n) := HA.out.cell 6
  have z7 : w0.cell? ⟨w.heap.size, 7, none⟩ = some (.int .i64 x.op) := HA.out.cell 7
  have z8 : w0.cell? ⟨w.heap.size, 8, none⟩ = some (.string x.key) := HA.out.cell 8
  have z9 : w0.cell? ⟨w.heap.size, 9, none⟩ = some (.string x.val) := HA.out.cell 9
  have z10 : w0.cell? ⟨w.heap.size, 10, none⟩ = some (.bool x.has) := HA.out.cell 10
  have z11 : w0.cell? ⟨w.heap.size, 11, none⟩ = some (.int .i64 x.code) := HA.out.cell 11
  have HP : Hid (rightM x = true ↔ (1 ≤ x.kind ∧ x.kind ≤ 10) ∧ nodeB x.frm = true ∧ nodeB x.dst = true ∧ nodeB x.node = true ∧ x.num ≤ 1099511627776 ∧ lifeOk x = true ∧ nOk x = true ∧ deedOk x = true ∧ valOk x = true ∧ codeOk x = true) := rightM_parts x
  by_cases a1 : 1 ≤ x.kind
  case neg =>
    have HK : Hid (rightM x = false) := Bool.eq_false_iff.2 fun h => by have := (HP.out.1 h).1; omega
    go_wp2
    go_ret
    exact ⟨ret_bool (by rw [HK.out]; try exact decide_eq_false (by omega)), HY.out⟩
  by_cases a2 : x.kind ≤ 10
  case neg =>
    have HK : Hid (rightM x = false) := Bool.eq_false_iff.2 fun h => by have := (HP.out.1 h).1; omega
    go_wp2
    go_ret
    exact ⟨ret_bool (by rw [HK.out]; try exact decide_eq_false (by omega)), HY.out⟩
  go_wp2_with fail
  refine (isNode_any x.frm _).mono ?_
  rintro e w1 ⟨rfl, hw⟩
  subst hw
  obtain ⟨b, hb⟩ : ∃ b, nodeB x.frm = b := ⟨_, rfl⟩
  rw [hb]
  have HB0 : Hid (nodeB x.frm = b) := hb
  clear hb
  cases b with
  | false =>
    have HK : Hid (rightM x = false) := Bool.eq_false_iff.2 fun h => absurd (HB0.out.symm.trans (HP.out.1 h).2.1) (by decide)
    go_wp2
    go_ret
    exact ⟨ret_bool (by rw [HK.out]; try exact decide_eq_false (by omega)), HY.out⟩
  | true =>
    go_wp2_with fail
    refine (isNode_any x.dst _).mono ?_
    rintro e w1 ⟨rfl, hw⟩
    subst hw
    obtain ⟨b, hb⟩ : ∃ b, nodeB x.dst = b := ⟨_, rfl⟩
    rw [hb]
    have HB1 : Hid (nodeB x.dst = b) := hb
    clear hb
    cases b with
    | false =>
      have HK : Hid (rightM x = false) := Bool.eq_false_iff.2 fun h => absurd (HB1.out.symm.trans (HP.out.1 h).2.2.1) (by decide)
      go_wp2
      go_ret
      exact ⟨ret_bool (by rw [HK.out]; try exact decide_eq_false (by omega)), HY.out⟩
    | true =>
      go_wp2_with fail
      refine (isNode_any x.node _).mono ?_
      rintro e w1 ⟨rfl, hw⟩
      subst hw
      obtain ⟨b, hb⟩ : ∃ b, nodeB x.node = b := ⟨_, rfl⟩
      rw [hb]
      have HB2 : Hid (nodeB x.node = b) := hb
      clear hb
      cases b with
      | false =>
        have HK : Hid (rightM x = false) := Bool.eq_false_iff.2 fun h => absurd (HB2.out.symm.trans (HP.out.1 h).2.2.2.1) (by decide)
        go_wp2
        go_ret
        exact ⟨ret_bool (by rw [HK.out]; try exact decide_eq_false (by omega)), HY.out⟩
      | true =>
        by_cases a3 : x.num ≤ 1099511627776
        case neg =>
          have HK : Hid (rightM x = false) := Bool.eq_false_iff.2 fun h => by have := (HP.out.1 h).2.2.2.2.1; omega
          go_wp2
          go_ret
          exact ⟨ret_bool (by rw [HK.out]; try exact decide_eq_false (by omega)), HY.out⟩
        go_wp2_with fail
        refine (rightLife_any x _).mono ?_
        rintro e wb0 ⟨rfl, y⟩
        have HA0 : Hid (Blk wb0 w.heap.size #[.int .i64 x.kind, .int .i64 x.frm, .int .i64 x.dst, .int .u64 x.num, .int .i64 x.node, .int .u64 x.life, .int .i64 x.n, .int .i64 x.op, .string x.key, .string x.val, .bool x.has, .int .i64 x.code] 27) := Blk.of HA.out (y.block _ HA.out.lt)
        have HY0 : Hid (Below w.heap.size w wb0) := HY.out.trans (y.mono HY.out.size)
        clear y HA HY z0 z1 z2 z3 z4 z5 z6 z7 z8 z9 z10 z11
        have z0 : wb0.cell? ⟨w.heap.size, 0, none⟩ = some (.int .i64 x.kind) := HA0.out.cell 0
        have z1 : wb0.cell? ⟨w.heap.size, 1, none⟩ = some (.int .i64 x.frm) := HA0.out.cell 1
        have z2 : wb0.cell? ⟨w.heap.size, 2, none⟩ = some (.int .i64 x.dst) := HA0.out.cell 2
        have z3 : wb0.cell? ⟨w.heap.size, 3, none⟩ = some (.int .u64 x.num) := HA0.out.cell 3
        have z4 : wb0.cell? ⟨w.heap.size, 4, none⟩ = some (.int .i64 x.node) := HA0.out.cell 4
        have z5 : wb0.cell? ⟨w.heap.size, 5, none⟩ = some (.int .u64 x.life) := HA0.out.cell 5
        have z6 : wb0.cell? ⟨w.heap.size, 6, none⟩ = some (.int .i64 x.n) := HA0.out.cell 6
        have z7 : wb0.cell? ⟨w.heap.size, 7, none⟩ = some (.int .i64 x.op) := HA0.out.cell 7
        have z8 : wb0.cell? ⟨w.heap.size, 8, none⟩ = some (.string x.key) := HA0.out.cell 8
        have z9 : wb0.cell? ⟨w.heap.size, 9, none⟩ = some (.string x.val) := HA0.out.cell 9
        have z10 : wb0.cell? ⟨w.heap.size, 10, none⟩ = some (.bool x.has) := HA0.out.cell 10
        have z11 : wb0.cell? ⟨w.heap.size, 11, none⟩ = some (.int .i64 x.code) := HA0.out.cell 11
        obtain ⟨b, hb⟩ : ∃ b, lifeOk x = b := ⟨_, rfl⟩
        rw [hb]
        have HB4 : Hid (lifeOk x = b) := hb
        clear hb
        cases b with
        | false =>
          have HK : Hid (rightM x = false) := Bool.eq_false_iff.2 fun h => absurd (HB4.out.symm.trans (HP.out.1 h).2.2.2.2.2.1) (by decide)
          go_wp2
          go_ret
          exact ⟨ret_bool (by rw [HK.out]; try exact decide_eq_false (by omega)), HY0.out⟩
        | true =>
          go_wp2_with fail
          refine (rightN_any x _).mono ?_
          rintro e wb1 ⟨rfl, y⟩
          have HA1 : Hid (Blk wb1 w.heap.size #[.int .i64 x.kind, .int .i64 x.frm, .int .i64 x.dst, .int .u64 x.num, .int .i64 x.node, .int .u64 x.life, .int .i64 x.n, .int .i64 x.op, .string x.key, .string x.val, .bool x.has, .int .i64 x.code] 27) := Blk.of HA0.out (y.block _ HA0.out.lt)
          have HY1 : Hid (Below w.heap.size w wb1) := HY0.out.trans (y.mono HY0.out.size)
          clear y HA0 HY0 z0 z1 z2 z3 z4 z5 z6 z7 z8 z9 z10 z11
          have z0 : wb1.cell? ⟨w.heap.size, 0, none⟩ = some (.int .i64 x.kind) := HA1.out.cell 0
          have z1 : wb1.cell? ⟨w.heap.size, 1, none⟩ = some (.int .i64 x.frm) := HA1.out.cell 1
          have z2 : wb1.cell? ⟨w.heap.size, 2, none⟩ = some (.int .i64 x.dst) := HA1.out.cell 2
          have z3 : wb1.cell? ⟨w.heap.size, 3, none⟩ = some (.int .u64 x.num) := HA1.out.cell 3
          have z4 : wb1.cell? ⟨w.heap.size, 4, none⟩ = some (.int .i64 x.node) := HA1.out.cell 4
          have z5 : wb1.cell? ⟨w.heap.size, 5, none⟩ = some (.int .u64 x.life) := HA1.out.cell 5
          have z6 : wb1.cell? ⟨w.heap.size, 6, none⟩ = some (.int .i64 x.n) := HA1.out.cell 6
          have z7 : wb1.cell? ⟨w.heap.size, 7, none⟩ = some (.int .i64 x.op) := HA1.out.cell 7
          have z8 : wb1.cell? ⟨w.heap.size, 8, none⟩ = some (.string x.key) := HA1.out.cell 8
          have z9 : wb1.cell? ⟨w.heap.size, 9, none⟩ = some (.string x.val) := HA1.out.cell 9
          have z10 : wb1.cell? ⟨w.heap.size, 10, none⟩ = some (.bool x.has) := HA1.out.cell 10
          have z11 : wb1.cell? ⟨w.heap.size, 11, none⟩ = some (.int .i64 x.code) := HA1.out.cell 11
          obtain ⟨b, hb⟩ : ∃ b, nOk x = b := ⟨_, rfl⟩
          rw [hb]
          have HB5 : Hid (nOk x = b) := hb
          clear hb
          cases b with
          | false =>
            have HK : Hid (rightM x = false) := Bool.eq_false_iff.2 fun h => absurd (HB5.out.symm.trans (HP.out.1 h).2.2.2.2.2.2.1) (by decide)
            go_wp2
            go_ret
            exact ⟨ret_bool (by rw [HK.out]; try exact decide_eq_false (by omega)), HY1.out⟩
          | true =>
            go_wp2_with fail
            refine (rightDeed_any x _ hk).mono ?_
            rintro e wb2 ⟨rfl, y⟩
            have HA2 : Hid (Blk wb2 w.heap.size #[.int .i64 x.kind, .int .i64 x.frm, .int .i64 x.dst, .int .u64 x.num, .int .i64 x.node, .int .u64 x.life, .int .i64 x.n, .int .i64 x.op, .string x.key, .string x.val, .bool x.has, .int .i64 x.code] 27) := Blk.of HA1.out (y.block _ HA1.out.lt)
            have HY2 : Hid (Below w.heap.size w wb2) := HY1.out.trans (y.mono HY1.out.size)
            clear y HA1 HY1 z0 z1 z2 z3 z4 z5 z6 z7 z8 z9 z10 z11
            have z0 : wb2.cell? ⟨w.heap.size, 0, none⟩ = some (.int .i64 x.kind) := HA2.out.cell 0
            have z1 : wb2.cell? ⟨w.heap.size, 1, none⟩ = some (.int .i64 x.frm) := HA2.out.cell 1
            have z2 : wb2.cell? ⟨w.heap.size, 2, none⟩ = some (.int .i64 x.dst) := HA2.out.cell 2
            have z3 : wb2.cell? ⟨w.heap.size, 3, none⟩ = some (.int .u64 x.num) := HA2.out.cell 3
            have z4 : wb2.cell? ⟨w.heap.size, 4, none⟩ = some (.int .i64 x.node) := HA2.out.cell 4
            have z5 : wb2.cell? ⟨w.heap.size, 5, none⟩ = some (.int .u64 x.life) := HA2.out.cell 5
            have z6 : wb2.cell? ⟨w.heap.size, 6, none⟩ = some (.int .i64 x.n) := HA2.out.cell 6
            have z7 : wb2.cell? ⟨w.heap.size, 7, none⟩ = some (.int .i64 x.op) := HA2.out.cell 7
            have z8 : wb2.cell? ⟨w.heap.size, 8, none⟩ = some (.string x.key) := HA2.out.cell 8
            have z9 : wb2.cell? ⟨w.heap.size, 9, none⟩ = some (.string x.val) := HA2.out.cell 9
            have z10 : wb2.cell? ⟨w.heap.size, 10, none⟩ = some (.bool x.has) := HA2.out.cell 10
            have z11 : wb2.cell? ⟨w.heap.size, 11, none⟩ = some (.int .i64 x.code) := HA2.out.cell 11
            obtain ⟨b, hb⟩ : ∃ b, deedOk x = b := ⟨_, rfl⟩
            rw [hb]
            have HB6 : Hid (deedOk x = b) := hb
            clear hb
            cases b with
            | false =>
              have HK : Hid (rightM x = false) := Bool.eq_false_iff.2 fun h => absurd (HB6.out.symm.trans (HP.out.1 h).2.2.2.2.2.2.2.1) (by decide)
              go_wp2
              go_ret
              exact ⟨ret_bool (by rw [HK.out]; try exact decide_eq_false (by omega)), HY2.out⟩
            | true =>
              go_wp2_with fail
              refine (rightVal_any x _ hv).mono ?_
              rintro e wb3 ⟨rfl, y⟩
              have HA3 : Hid (Blk wb3 w.heap.size #[.int .i64 x.kind, .int .i64 x.frm, .int .i64 x.dst, .int .u64 x.num, .int .i64 x.node, .int .u64 x.life, .int .i64 x.n, .int .i64 x.op, .string x.key, .string x.val, .bool x.has, .int .i64 x.code] 27) := Blk.of HA2.out (y.block _ HA2.out.lt)
              have HY3 : Hid (Below w.heap.size w wb3) := HY2.out.trans (y.mono HY2.out.size)
              clear y HA2 HY2 z0 z1 z2 z3 z4 z5 z6 z7 z8 z9 z10 z11
              have z0 : wb3.cell? ⟨w.heap.size, 0, none⟩ = some (.int .i64 x.kind) := HA3.out.cell 0
              have z1 : wb3.cell? ⟨w.heap.size, 1, none⟩ = some (.int .i64 x.frm) := HA3.out.cell 1
              have z2 : wb3.cell? ⟨w.heap.size, 2, none⟩ = some (.int .i64 x.dst) := HA3.out.cell 2
              have z3 : wb3.cell? ⟨w.heap.size, 3, none⟩ = some (.int .u64 x.num) := HA3.out.cell 3
              have z4 : wb3.cell? ⟨w.heap.size, 4, none⟩ = some (.int .i64 x.node) := HA3.out.cell 4
              have z5 : wb3.cell? ⟨w.heap.size, 5, none⟩ = some (.int .u64 x.life) := HA3.out.cell 5
              have z6 : wb3.cell? ⟨w.heap.size, 6, none⟩ = some (.int .i64 x.n) := HA3.out.cell 6
              have z7 : wb3.cell? ⟨w.heap.size, 7, none⟩ = some (.int .i64 x.op) := HA3.out.cell 7
              have z8 : wb3.cell? ⟨w.heap.size, 8, none⟩ = some (.string x.key) := HA3.out.cell 8
              have z9 : wb3.cell? ⟨w.heap.size, 9, none⟩ = some (.string x.val) := HA3.out.cell 9
              have z10 : wb3.cell? ⟨w.heap.size, 10, none⟩ = some (.bool x.has) := HA3.out.cell 10
              have z11 : wb3.cell? ⟨w.heap.size, 11, none⟩ = some (.int .i64 x.code) := HA3.out.cell 11
              obtain ⟨b, hb⟩ : ∃ b, valOk x = b := ⟨_, rfl⟩
              rw [hb]
              have HB7 : Hid (valOk x = b) := hb
              clear hb
              cases b with
              | false =>
                have HK : Hid (rightM x = false) := Bool.eq_false_iff.2 fun h => absurd (HB7.out.symm.trans (HP.out.1 h).2.2.2.2.2.2.2.2.1) (by decide)
                go_wp2
                go_ret
                exact ⟨ret_bool (by rw [HK.out]; try exact decide_eq_false (by omega)), HY3.out⟩
              | true =>
                go_wp2_with fail
                refine (rightCode_any x _).mono ?_
                rintro e wb4 ⟨rfl, y⟩
                have HA4 : Hid (Blk wb4 w.heap.size #[.int .i64 x.kind, .int .i64 x.frm, .int .i64 x.dst, .int .u64 x.num, .int .i64 x.node, .int .u64 x.life, .int .i64 x.n, .int .i64 x.op, .string x.key, .string x.val, .bool x.has, .int .i64 x.code] 27) := Blk.of HA3.out (y.block _ HA3.out.lt)
                have HY4 : Hid (Below w.heap.size w wb4) := HY3.out.trans (y.mono HY3.out.size)
                clear y HA3 HY3 z0 z1 z2 z3 z4 z5 z6 z7 z8 z9 z10 z11
                obtain ⟨b, hb⟩ : ∃ b, codeOk x = b := ⟨_, rfl⟩
                rw [hb]
                have HB8 : Hid (codeOk x = b) := hb
                clear hb
                cases b with
                | false =>
                  have HK : Hid (rightM x = false) := Bool.eq_false_iff.2 fun h => absurd (HB8.out.symm.trans (HP.out.1 h).2.2.2.2.2.2.2.2.2) (by decide)
                  go_wp2
                  go_ret
                  exact ⟨ret_bool (by rw [HK.out]; try exact decide_eq_false (by omega)), HY4.out⟩
                | true =>
                  have HK : Hid (rightM x = true) := HP.out.2 ⟨⟨a1, a2⟩, HB0.out, HB1.out, HB2.out, a3, HB4.out, HB5.out, HB6.out, HB7.out, HB8.out⟩
                  go_wp2
                  go_ret
                  exact ⟨ret_bool (by rw [HK.out]), HY4.out⟩
end Go.Proofs.Ytefmeeffkjendaa

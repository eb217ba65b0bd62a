/- MsgApart: the walk of the law's Go text. Own lemmas, no statement. -/
import Derived.Test.YtefmeeffkjendaaMsg6
import Derived.Test.YtefmeeffkjendaaMsg7
import Derived.Test.YtefmeeffkjendaaMsgOpen
import Derived.Test.YtefmeeffkjendaaSrcSeg
set_option linter.unusedSimpArgs false
set_option linter.unusedVariables false
namespace Go.Proofs.Ytefmeeffkjendaa
open Go.ChangeShapes Go.WideShapes Go.ChangeAt Go.RowKit

theorem blk_two (w : World) (c1 c2 : Array Value) (T1 T2 : TypeId) : Blk ((w.alloc (.cells c1 T1)).alloc (.cells c2 T2)) (w.heap.size + 1) c2 T2 := by
  have := Blk.new (w.alloc (.cells c1 T1)) c2 T2
  simpa using this
set_option maxRecDepth 100000 in
set_option maxHeartbeats 8000000 in
theorem walk_MsgApart (x v : MsgQ) (w : World) (wx : x.Wf) (wv : v.Wf) : Calls Try.prog 6 #[.agg #[.int .i64 x.kind, .int .i64 x.frm, .int .i64 x.dst, .int .u64 x.num, .int .i64 x.node, .int .u64 x.life, .int .i64 x.n, .int .i64 x.op, .string x.key, .string x.val, .bool x.has, .int .i64 x.code], .agg #[.int .i64 v.kind, .int .i64 v.frm, .int .i64 v.dst, .int .u64 v.num, .int .i64 v.node, .int .u64 v.life, .int .i64 v.n, .int .i64 v.op, .string v.key, .string v.val, .bool v.has, .int .i64 v.code]] w fun e w' => e = .returned (.bool true) ∧ Below w.heap.size w w' := by
  have HX : Hid x.Wf := wx
  have HV : Hid v.Wf := wv
  have s1 : x.key.size ≤ 9223372036854775807 := wx.2.2.2.2.2.2.2.2.1
  have s2 : x.val.size ≤ 9223372036854775807 := wx.2.2.2.2.2.2.2.2.2.1
  have s3 : v.key.size ≤ 9223372036854775807 := wv.2.2.2.2.2.2.2.2.1
  have s4 : v.val.size ≤ 9223372036854775807 := wv.2.2.2.2.2.2.2.2.2.1
  clear wx wv
  have HA : Hid (Blk ((w.alloc (.cells #[.int .i64 x.kind, .int .i64 x.frm, .int .i64 x.dst, .int .u64 x.num, .int .i64 x.node, .int .u64 x.life, .int .i64 x.n, .int .i64 x.op, .string x.key, .string x.val, .bool x.has, .int .i64 x.code] 27)).alloc (.cells #[.int .i64 v.kind, .int .i64 v.frm, .int .i64 v.dst, .int .u64 v.num, .int .i64 v.node, .int .u64 v.life, .int .i64 v.n, .int .i64 v.op, .string v.key, .string v.val, .bool v.has, .int .i64 v.code] 27)) w.heap.size #[.int .i64 x.kind, .int .i64 x.frm, .int .i64 x.dst, .int .u64 x.num, .int .i64 x.node, .int .u64 x.life, .int .i64 x.n, .int .i64 x.op, .string x.key, .string x.val, .bool x.has, .int .i64 x.code] 27) := (Blk.new _ _ _).alloc _
  have HR : Hid (Blk ((w.alloc (.cells #[.int .i64 x.kind, .int .i64 x.frm, .int .i64 x.dst, .int .u64 x.num, .int .i64 x.node, .int .u64 x.life, .int .i64 x.n, .int .i64 x.op, .string x.key, .string x.val, .bool x.has, .int .i64 x.code] 27)).alloc (.cells #[.int .i64 v.kind, .int .i64 v.frm, .int .i64 v.dst, .int .u64 v.num, .int .i64 v.node, .int .u64 v.life, .int .i64 v.n, .int .i64 v.op, .string v.key, .string v.val, .bool v.has, .int .i64 v.code] 27)) (w.heap.size + 1) #[.int .i64 v.kind, .int .i64 v.frm, .int .i64 v.dst, .int .u64 v.num, .int .i64 v.node, .int .u64 v.life, .int .i64 v.n, .int .i64 v.op, .string v.key, .string v.val, .bool v.has, .int .i64 v.code] 27) := blk_two _ _ _ _ _
  have HY : Hid (Below w.heap.size w ((w.alloc (.cells #[.int .i64 x.kind, .int .i64 x.frm, .int .i64 x.dst, .int .u64 x.num, .int .i64 x.node, .int .u64 x.life, .int .i64 x.n, .int .i64 x.op, .string x.key, .string x.val, .bool x.has, .int .i64 x.code] 27)).alloc (.cells #[.int .i64 v.kind, .int .i64 v.frm, .int .i64 v.dst, .int .u64 v.num, .int .i64 v.node, .int .u64 v.life, .int .i64 v.n, .int .i64 v.op, .string v.key, .string v.val, .bool v.has, .int .i64 v.code] 27))) := ((Below.refl _ _).alloc (Nat.le_refl _) _).alloc (by simp) _
  go_enter Try.func6, Try.ntmps6
  go_upto_region 1 with fail
  generalize ((w.alloc (.cells #[.int .i64 x.kind, .int .i64 x.frm, .int .i64 x.dst, .int .u64 x.num, .int .i64 x.node, .int .u64 x.life, .int .i64 x.n, .int .i64 x.op, .string x.key, .string x.val, .bool x.has, .int .i64 x.code] 27)).alloc (.cells #[.int .i64 v.kind, .int .i64 v.frm, .int .i64 v.dst, .int .u64 v.num, .int .i64 v.node, .int .u64 v.life, .int .i64 v.n, .int .i64 v.op, .string v.key, .string v.val, .bool v.has, .int .i64 v.code] 27)) = w0 at *
  go_wp2_with fail
  refine (head15_any _).mono ?_
  rintro e w1 ⟨rfl, y⟩
  have HA' : Hid (Blk w1 w.heap.size #[.int .i64 x.kind, .int .i64 x.frm, .int .i64 x.dst, .int .u64 x.num, .int .i64 x.node, .int .u64 x.life, .int .i64 x.n, .int .i64 x.op, .string x.key, .string x.val, .bool x.has, .int .i64 x.code] 27) := Blk.of HA.out (y.block _ HA.out.lt)
  have HR' : Hid (Blk w1 (w.heap.size + 1) #[.int .i64 v.kind, .int .i64 v.frm, .int .i64 v.dst, .int .u64 v.num, .int .i64 v.node, .int .u64 v.life, .int .i64 v.n, .int .i64 v.op, .string v.key, .string v.val, .bool v.has, .int .i64 v.code] 27) := Blk.of HR.out (y.block _ HR.out.lt)
  have HY' : Hid (Below w.heap.size w w1) := ext_trans HY.out y
  clear HA HR HY
  have HA := HA'
  have HR := HR'
  have HY := HY'
  clear HA' HR' HY'
  have z0 : w1.cell? ⟨w.heap.size, 0, none⟩ = some (.int .i64 x.kind) := HA.out.cell 0
  have z1 : w1.cell? ⟨w.heap.size, 1, none⟩ = some (.int .i64 x.frm) := HA.out.cell 1
  have z2 : w1.cell? ⟨w.heap.size, 2, none⟩ = some (.int .i64 x.dst) := HA.out.cell 2
  have z3 : w1.cell? ⟨w.heap.size, 3, none⟩ = some (.int .u64 x.num) := HA.out.cell 3
  have z4 : w1.cell? ⟨w.heap.size, 4, none⟩ = some (.int .i64 x.node) := HA.out.cell 4
  have z5 : w1.cell? ⟨w.heap.size, 5, none⟩ = some (.int .u64 x.life) := HA.out.cell 5
  have z6 : w1.cell? ⟨w.heap.size, 6, none⟩ = some (.int .i64 x.n) := HA.out.cell 6
  have z7 : w1.cell? ⟨w.heap.size, 7, none⟩ = some (.int .i64 x.op) := HA.out.cell 7
  have z8 : w1.cell? ⟨w.heap.size, 8, none⟩ = some (.string x.key) := HA.out.cell 8
  have z9 : w1.cell? ⟨w.heap.size, 9, none⟩ = some (.string x.val) := HA.out.cell 9
  have z10 : w1.cell? ⟨w.heap.size, 10, none⟩ = some (.bool x.has) := HA.out.cell 10
  have z11 : w1.cell? ⟨w.heap.size, 11, none⟩ = some (.int .i64 x.code) := HA.out.cell 11
  have y0 : w1.cell? ⟨w.heap.size + 1, 0, none⟩ = some (.int .i64 v.kind) := HR.out.cell 0
  have y1 : w1.cell? ⟨w.heap.size + 1, 1, none⟩ = some (.int .i64 v.frm) := HR.out.cell 1
  have y2 : w1.cell? ⟨w.heap.size + 1, 2, none⟩ = some (.int .i64 v.dst) := HR.out.cell 2
  have y3 : w1.cell? ⟨w.heap.size + 1, 3, none⟩ = some (.int .u64 v.num) := HR.out.cell 3
  have y4 : w1.cell? ⟨w.heap.size + 1, 4, none⟩ = some (.int .i64 v.node) := HR.out.cell 4
  have y5 : w1.cell? ⟨w.heap.size + 1, 5, none⟩ = some (.int .u64 v.life) := HR.out.cell 5
  have y6 : w1.cell? ⟨w.heap.size + 1, 6, none⟩ = some (.int .i64 v.n) := HR.out.cell 6
  have y7 : w1.cell? ⟨w.heap.size + 1, 7, none⟩ = some (.int .i64 v.op) := HR.out.cell 7
  have y8 : w1.cell? ⟨w.heap.size + 1, 8, none⟩ = some (.string v.key) := HR.out.cell 8
  have y9 : w1.cell? ⟨w.heap.size + 1, 9, none⟩ = some (.string v.val) := HR.out.cell 9
  have y10 : w1.cell? ⟨w.heap.size + 1, 10, none⟩ = some (.bool v.has) := HR.out.cell 10
  have y11 : w1.cell? ⟨w.heap.size + 1, 11, none⟩ = some (.int .i64 v.code) := HR.out.cell 11
  clear y
  by_cases hk : wrap64 (wrap64 (wrap64 ((x.key.size : Int) + (x.val.size : Int)) + (v.key.size : Int)) + (v.val.size : Int)) ≤ 400
  case neg =>
    go_wp2
    go_ret
    exact ⟨rfl, HY.out⟩
  go_upto_region 5 with fail
  clear hk s1 s2 s3 s4
  go_wp2_with fail
  refine (encode_any x w1 HX.out).mono ?_
  rintro e w4 ⟨he1, y⟩
  have HA' : Hid (Blk w4 w.heap.size #[.int .i64 x.kind, .int .i64 x.frm, .int .i64 x.dst, .int .u64 x.num, .int .i64 x.node, .int .u64 x.life, .int .i64 x.n, .int .i64 x.op, .string x.key, .string x.val, .bool x.has, .int .i64 x.code] 27) := Blk.of HA.out (y.block _ HA.out.lt)
  have HR' : Hid (Blk w4 (w.heap.size + 1) #[.int .i64 v.kind, .int .i64 v.frm, .int .i64 v.dst, .int .u64 v.num, .int .i64 v.node, .int .u64 v.life, .int .i64 v.n, .int .i64 v.op, .string v.key, .string v.val, .bool v.has, .int .i64 v.code] 27) := Blk.of HR.out (y.block _ HR.out.lt)
  have HY' : Hid (Below w.heap.size w w4) := ext_trans HY.out y
  clear HA HR HY z0 y0 z1 y1 z2 y2 z3 y3 z4 y4 z5 y5 z6 y6 z7 y7 z8 y8 z9 y9 z10 y10 z11 y11
  have HA := HA'
  have HR := HR'
  have HY := HY'
  clear HA' HR' HY'
  have z0 : w4.cell? ⟨w.heap.size, 0, none⟩ = some (.int .i64 x.kind) := HA.out.cell 0
  have z1 : w4.cell? ⟨w.heap.size, 1, none⟩ = some (.int .i64 x.frm) := HA.out.cell 1
  have z2 : w4.cell? ⟨w.heap.size, 2, none⟩ = some (.int .i64 x.dst) := HA.out.cell 2
  have z3 : w4.cell? ⟨w.heap.size, 3, none⟩ = some (.int .u64 x.num) := HA.out.cell 3
  have z4 : w4.cell? ⟨w.heap.size, 4, none⟩ = some (.int .i64 x.node) := HA.out.cell 4
  have z5 : w4.cell? ⟨w.heap.size, 5, none⟩ = some (.int .u64 x.life) := HA.out.cell 5
  have z6 : w4.cell? ⟨w.heap.size, 6, none⟩ = some (.int .i64 x.n) := HA.out.cell 6
  have z7 : w4.cell? ⟨w.heap.size, 7, none⟩ = some (.int .i64 x.op) := HA.out.cell 7
  have z8 : w4.cell? ⟨w.heap.size, 8, none⟩ = some (.string x.key) := HA.out.cell 8
  have z9 : w4.cell? ⟨w.heap.size, 9, none⟩ = some (.string x.val) := HA.out.cell 9
  have z10 : w4.cell? ⟨w.heap.size, 10, none⟩ = some (.bool x.has) := HA.out.cell 10
  have z11 : w4.cell? ⟨w.heap.size, 11, none⟩ = some (.int .i64 x.code) := HA.out.cell 11
  have y0 : w4.cell? ⟨w.heap.size + 1, 0, none⟩ = some (.int .i64 v.kind) := HR.out.cell 0
  have y1 : w4.cell? ⟨w.heap.size + 1, 1, none⟩ = some (.int .i64 v.frm) := HR.out.cell 1
  have y2 : w4.cell? ⟨w.heap.size + 1, 2, none⟩ = some (.int .i64 v.dst) := HR.out.cell 2
  have y3 : w4.cell? ⟨w.heap.size + 1, 3, none⟩ = some (.int .u64 v.num) := HR.out.cell 3
  have y4 : w4.cell? ⟨w.heap.size + 1, 4, none⟩ = some (.int .i64 v.node) := HR.out.cell 4
  have y5 : w4.cell? ⟨w.heap.size + 1, 5, none⟩ = some (.int .u64 v.life) := HR.out.cell 5
  have y6 : w4.cell? ⟨w.heap.size + 1, 6, none⟩ = some (.int .i64 v.n) := HR.out.cell 6
  have y7 : w4.cell? ⟨w.heap.size + 1, 7, none⟩ = some (.int .i64 v.op) := HR.out.cell 7
  have y8 : w4.cell? ⟨w.heap.size + 1, 8, none⟩ = some (.string v.key) := HR.out.cell 8
  have y9 : w4.cell? ⟨w.heap.size + 1, 9, none⟩ = some (.string v.val) := HR.out.cell 9
  have y10 : w4.cell? ⟨w.heap.size + 1, 10, none⟩ = some (.bool v.has) := HR.out.cell 10
  have y11 : w4.cell? ⟨w.heap.size + 1, 11, none⟩ = some (.int .i64 v.code) := HR.out.cell 11
  clear y
  rcases he1 with ⟨r1, g1, c1, rfl, o1⟩ | ⟨q1, rfl⟩
  · have R1 : Hid (RightM x) := r1
    have S1 : Hid (Src w4 (.slice (some ⟨g1, 0, none⟩) (msgB x).length c1) (msgB x)) := o1.src
    have hn1 := msg_len r1 HX.out.2.2.2.2.2.1.1
    clear r1 o1
    obtain ⟨B1, hB1⟩ : ∃ l, l = msgB x := ⟨_, rfl⟩
    have E1 : Hid (B1 = msgB x) := hB1
    rw [← hB1] at S1 hn1 ⊢
    clear hB1
    obtain ⟨n1, hq1⟩ : ∃ n, n = B1.length := ⟨_, rfl⟩
    rw [← hq1] at S1 hn1 ⊢
    clear hq1
    go_wp2_with fail
    refine (encode_any v w4 HV.out).mono ?_
    rintro e w5 ⟨he2, y⟩
    have HA' : Hid (Blk w5 w.heap.size #[.int .i64 x.kind, .int .i64 x.frm, .int .i64 x.dst, .int .u64 x.num, .int .i64 x.node, .int .u64 x.life, .int .i64 x.n, .int .i64 x.op, .string x.key, .string x.val, .bool x.has, .int .i64 x.code] 27) := Blk.of HA.out (y.block _ HA.out.lt)
    have HR' : Hid (Blk w5 (w.heap.size + 1) #[.int .i64 v.kind, .int .i64 v.frm, .int .i64 v.dst, .int .u64 v.num, .int .i64 v.node, .int .u64 v.life, .int .i64 v.n, .int .i64 v.op, .string v.key, .string v.val, .bool v.has, .int .i64 v.code] 27) := Blk.of HR.out (y.block _ HR.out.lt)
    have HY' : Hid (Below w.heap.size w w5) := ext_trans HY.out y
    clear HA HR HY z0 y0 z1 y1 z2 y2 z3 y3 z4 y4 z5 y5 z6 y6 z7 y7 z8 y8 z9 y9 z10 y10 z11 y11
    have HA := HA'
    have HR := HR'
    have HY := HY'
    clear HA' HR' HY'
    have z0 : w5.cell? ⟨w.heap.size, 0, none⟩ = some (.int .i64 x.kind) := HA.out.cell 0
    have z1 : w5.cell? ⟨w.heap.size, 1, none⟩ = some (.int .i64 x.frm) := HA.out.cell 1
    have z2 : w5.cell? ⟨w.heap.size, 2, none⟩ = some (.int .i64 x.dst) := HA.out.cell 2
    have z3 : w5.cell? ⟨w.heap.size, 3, none⟩ = some (.int .u64 x.num) := HA.out.cell 3
    have z4 : w5.cell? ⟨w.heap.size, 4, none⟩ = some (.int .i64 x.node) := HA.out.cell 4
    have z5 : w5.cell? ⟨w.heap.size, 5, none⟩ = some (.int .u64 x.life) := HA.out.cell 5
    have z6 : w5.cell? ⟨w.heap.size, 6, none⟩ = some (.int .i64 x.n) := HA.out.cell 6
    have z7 : w5.cell? ⟨w.heap.size, 7, none⟩ = some (.int .i64 x.op) := HA.out.cell 7
    have z8 : w5.cell? ⟨w.heap.size, 8, none⟩ = some (.string x.key) := HA.out.cell 8
    have z9 : w5.cell? ⟨w.heap.size, 9, none⟩ = some (.string x.val) := HA.out.cell 9
    have z10 : w5.cell? ⟨w.heap.size, 10, none⟩ = some (.bool x.has) := HA.out.cell 10
    have z11 : w5.cell? ⟨w.heap.size, 11, none⟩ = some (.int .i64 x.code) := HA.out.cell 11
    have y0 : w5.cell? ⟨w.heap.size + 1, 0, none⟩ = some (.int .i64 v.kind) := HR.out.cell 0
    have y1 : w5.cell? ⟨w.heap.size + 1, 1, none⟩ = some (.int .i64 v.frm) := HR.out.cell 1
    have y2 : w5.cell? ⟨w.heap.size + 1, 2, none⟩ = some (.int .i64 v.dst) := HR.out.cell 2
    have y3 : w5.cell? ⟨w.heap.size + 1, 3, none⟩ = some (.int .u64 v.num) := HR.out.cell 3
    have y4 : w5.cell? ⟨w.heap.size + 1, 4, none⟩ = some (.int .i64 v.node) := HR.out.cell 4
    have y5 : w5.cell? ⟨w.heap.size + 1, 5, none⟩ = some (.int .u64 v.life) := HR.out.cell 5
    have y6 : w5.cell? ⟨w.heap.size + 1, 6, none⟩ = some (.int .i64 v.n) := HR.out.cell 6
    have y7 : w5.cell? ⟨w.heap.size + 1, 7, none⟩ = some (.int .i64 v.op) := HR.out.cell 7
    have y8 : w5.cell? ⟨w.heap.size + 1, 8, none⟩ = some (.string v.key) := HR.out.cell 8
    have y9 : w5.cell? ⟨w.heap.size + 1, 9, none⟩ = some (.string v.val) := HR.out.cell 9
    have y10 : w5.cell? ⟨w.heap.size + 1, 10, none⟩ = some (.bool v.has) := HR.out.cell 10
    have y11 : w5.cell? ⟨w.heap.size + 1, 11, none⟩ = some (.int .i64 v.code) := HR.out.cell 11
    have S1' : Hid (Src w5 (.slice (some ⟨g1, 0, none⟩) n1 c1) B1) := S1.out.below y
    clear y S1
    rcases he2 with ⟨r2, g2, c2, rfl, o2⟩ | ⟨q2, rfl⟩
    · have R2 : Hid (RightM v) := r2
      have S2 : Hid (Src w5 (.slice (some ⟨g2, 0, none⟩) (msgB v).length c2) (msgB v)) := o2.src
      have hn2 := msg_len r2 HV.out.2.2.2.2.2.1.1
      clear r2 o2
      obtain ⟨B2, hB2⟩ : ∃ l, l = msgB v := ⟨_, rfl⟩
      have E2 : Hid (B2 = msgB v) := hB2
      rw [← hB2] at S2 hn2 ⊢
      clear hB2
      obtain ⟨n2, hq2⟩ : ∃ n, n = B2.length := ⟨_, rfl⟩
      rw [← hq2] at S2 hn2 ⊢
      clear hq2
      go_upto_region 9 with fail
      clear z0 y0 z1 y1 z2 y2 z3 y3 z4 y4 z5 y5 z6 y6 z7 y7 z8 y8 z9 y9 z10 y10 z11 y11
      refine wp_region_ext (by kernel_rfl) ?_
      haveI nA := cls_ext w5.drew
      have z0 := cellX (W0 := w5.drew) (show w5.drew.cell? ⟨w.heap.size, 0, none⟩ = some _ from HA.out.cell 0)
      have y0 := cellX (W0 := w5.drew) (show w5.drew.cell? ⟨w.heap.size + 1, 0, none⟩ = some _ from HR.out.cell 0)
      have z1 := cellX (W0 := w5.drew) (show w5.drew.cell? ⟨w.heap.size, 1, none⟩ = some _ from HA.out.cell 1)
      have y1 := cellX (W0 := w5.drew) (show w5.drew.cell? ⟨w.heap.size + 1, 1, none⟩ = some _ from HR.out.cell 1)
      have z2 := cellX (W0 := w5.drew) (show w5.drew.cell? ⟨w.heap.size, 2, none⟩ = some _ from HA.out.cell 2)
      have y2 := cellX (W0 := w5.drew) (show w5.drew.cell? ⟨w.heap.size + 1, 2, none⟩ = some _ from HR.out.cell 2)
      have z3 := cellX (W0 := w5.drew) (show w5.drew.cell? ⟨w.heap.size, 3, none⟩ = some _ from HA.out.cell 3)
      have y3 := cellX (W0 := w5.drew) (show w5.drew.cell? ⟨w.heap.size + 1, 3, none⟩ = some _ from HR.out.cell 3)
      have z4 := cellX (W0 := w5.drew) (show w5.drew.cell? ⟨w.heap.size, 4, none⟩ = some _ from HA.out.cell 4)
      have y4 := cellX (W0 := w5.drew) (show w5.drew.cell? ⟨w.heap.size + 1, 4, none⟩ = some _ from HR.out.cell 4)
      have z5 := cellX (W0 := w5.drew) (show w5.drew.cell? ⟨w.heap.size, 5, none⟩ = some _ from HA.out.cell 5)
      have y5 := cellX (W0 := w5.drew) (show w5.drew.cell? ⟨w.heap.size + 1, 5, none⟩ = some _ from HR.out.cell 5)
      have z6 := cellX (W0 := w5.drew) (show w5.drew.cell? ⟨w.heap.size, 6, none⟩ = some _ from HA.out.cell 6)
      have y6 := cellX (W0 := w5.drew) (show w5.drew.cell? ⟨w.heap.size + 1, 6, none⟩ = some _ from HR.out.cell 6)
      have z7 := cellX (W0 := w5.drew) (show w5.drew.cell? ⟨w.heap.size, 7, none⟩ = some _ from HA.out.cell 7)
      have y7 := cellX (W0 := w5.drew) (show w5.drew.cell? ⟨w.heap.size + 1, 7, none⟩ = some _ from HR.out.cell 7)
      have z8 := cellX (W0 := w5.drew) (show w5.drew.cell? ⟨w.heap.size, 8, none⟩ = some _ from HA.out.cell 8)
      have y8 := cellX (W0 := w5.drew) (show w5.drew.cell? ⟨w.heap.size + 1, 8, none⟩ = some _ from HR.out.cell 8)
      have z9 := cellX (W0 := w5.drew) (show w5.drew.cell? ⟨w.heap.size, 9, none⟩ = some _ from HA.out.cell 9)
      have y9 := cellX (W0 := w5.drew) (show w5.drew.cell? ⟨w.heap.size + 1, 9, none⟩ = some _ from HR.out.cell 9)
      have z10 := cellX (W0 := w5.drew) (show w5.drew.cell? ⟨w.heap.size, 10, none⟩ = some _ from HA.out.cell 10)
      have y10 := cellX (W0 := w5.drew) (show w5.drew.cell? ⟨w.heap.size + 1, 10, none⟩ = some _ from HR.out.cell 10)
      have z11 := cellX (W0 := w5.drew) (show w5.drew.cell? ⟨w.heap.size, 11, none⟩ = some _ from HA.out.cell 11)
      have y11 := cellX (W0 := w5.drew) (show w5.drew.cell? ⟨w.heap.size + 1, 11, none⟩ = some _ from HR.out.cell 11)
      have u1 := Src.strE (W0 := w5.drew) (S1'.out.below (Below.drew (Below.refl _ _)))
      have u2 := Src.strE (W0 := w5.drew) (S2.out.below (Below.drew (Below.refl _ _)))
      have hq : (B1 == B2) = msgEq x v := by
        rw [Bool.eq_iff_iff, beq_iff_eq, msgEq_iff]
        constructor
        · intro h
          rw [E1.out, E2.out] at h
          exact (msg_apart R1.out HX.out.2.2.2.1.1 HX.out.2.2.2.2.2.1.1 R2.out HV.out.2.2.2.1.1 HV.out.2.2.2.2.2.1.1 (r := []) (by rw [h, List.append_nil])).1
        · intro e
          rw [E1.out, E2.out, e]
      have hm1 : decide ((n1 : Int) ≤ 150) = true := decide_eq_true (by omega)
      have hm2 : decide ((n2 : Int) ≤ 150) = true := decide_eq_true (by omega)
      have hm3 : (n1 : Int) ≤ 150 := by omega
      have hm4 : (n2 : Int) ≤ 150 := by omega
      have HYD : Hid (Below w.heap.size w w5.drew) := Below.drew HY.out
      obtain ⟨D, hD⟩ : ∃ D, msgEq x v = D := ⟨_, rfl⟩
      rw [hD] at hq
      have HDD : Hid (msgEq x v = D) := hD
      clear hD
      cases D with
      | true =>
        refine wpAnyH_seg (by kernel_rfl) (fun _ _ _ h => h) [0, 1, 2, 3, 4, 5, 6, 7, 8, 9, 10, 11, 12, 13, 14, 15, 16, 17, 18, 19] 0 _ _ _ (Ext.refl _) (by kernel_rfl) ?_
        simp only [opsAt, List.getElem?_toArray, List.getElem?_cons_zero, List.getElem?_cons_succ, List.cons_append, List.nil_append]
        repeat (go_big_quiet_step (fail))
        go_big_quiet_want
        refine quiet_msgEq x v rfl rfl rfl ?_
        simp only [Act.put, List.setIfInBounds_toArray, List.set_cons_succ, List.set_cons_zero]
        go_big_quiet_on
        rw [HDD.out]
        repeat (go_big_quiet_step (fail))
        refine wpQuiet_nil ?_
        clear nA z0 y0 z1 y1 z2 y2 z3 y3 z4 y4 z5 y5 z6 y6 z7 y7 z8 y8 z9 y9 z10 y10 z11 y11 u1 u2 hq
        refine wpAnyH_done (by kernel_rfl) (NoPanic.normal ?_) 0
        go_wp2
        go_ret
        exact ⟨rfl, HYD.out⟩
      | false =>
        refine wpAnyH_seg (by kernel_rfl) (fun _ _ _ h => h) [0, 1, 2, 3, 4, 5, 6, 7, 8, 9, 10, 11, 12, 13, 14, 15, 16, 17, 18, 19] 0 _ _ _ (Ext.refl _) (by kernel_rfl) ?_
        simp only [opsAt, List.getElem?_toArray, List.getElem?_cons_zero, List.getElem?_cons_succ, List.cons_append, List.nil_append]
        repeat (go_big_quiet_step (fail))
        go_big_quiet_want
        refine quiet_msgEq x v rfl rfl rfl ?_
        simp only [Act.put, List.setIfInBounds_toArray, List.set_cons_succ, List.set_cons_zero]
        go_big_quiet_on
        rw [HDD.out]
        repeat (go_big_quiet_step (fail))
        refine wpQuiet_nil ?_
        clear nA z0 y0 z1 y1 z2 y2 z3 y3 z4 y4 z5 y5 z6 y6 z7 y7 z8 y8 z9 y9 z10 y10 z11 y11 u1 u2 hq
        refine wpAnyH_done (by kernel_rfl) (NoPanic.normal ?_) 0
        go_wp2
        go_ret
        exact ⟨rfl, HYD.out⟩
    · go_wp2
      go_ret
      exact ⟨rfl, HY.out⟩
  · go_wp2_with fail
    refine (encode_any v w4 HV.out).mono ?_
    rintro e w5 ⟨he2, y⟩
    have HA' : Hid (Blk w5 w.heap.size #[.int .i64 x.kind, .int .i64 x.frm, .int .i64 x.dst, .int .u64 x.num, .int .i64 x.node, .int .u64 x.life, .int .i64 x.n, .int .i64 x.op, .string x.key, .string x.val, .bool x.has, .int .i64 x.code] 27) := Blk.of HA.out (y.block _ HA.out.lt)
    have HR' : Hid (Blk w5 (w.heap.size + 1) #[.int .i64 v.kind, .int .i64 v.frm, .int .i64 v.dst, .int .u64 v.num, .int .i64 v.node, .int .u64 v.life, .int .i64 v.n, .int .i64 v.op, .string v.key, .string v.val, .bool v.has, .int .i64 v.code] 27) := Blk.of HR.out (y.block _ HR.out.lt)
    have HY' : Hid (Below w.heap.size w w5) := ext_trans HY.out y
    clear HA HR HY z0 y0 z1 y1 z2 y2 z3 y3 z4 y4 z5 y5 z6 y6 z7 y7 z8 y8 z9 y9 z10 y10 z11 y11
    have HA := HA'
    have HR := HR'
    have HY := HY'
    clear HA' HR' HY'
    have z0 : w5.cell? ⟨w.heap.size, 0, none⟩ = some (.int .i64 x.kind) := HA.out.cell 0
    have z1 : w5.cell? ⟨w.heap.size, 1, none⟩ = some (.int .i64 x.frm) := HA.out.cell 1
    have z2 : w5.cell? ⟨w.heap.size, 2, none⟩ = some (.int .i64 x.dst) := HA.out.cell 2
    have z3 : w5.cell? ⟨w.heap.size, 3, none⟩ = some (.int .u64 x.num) := HA.out.cell 3
    have z4 : w5.cell? ⟨w.heap.size, 4, none⟩ = some (.int .i64 x.node) := HA.out.cell 4
    have z5 : w5.cell? ⟨w.heap.size, 5, none⟩ = some (.int .u64 x.life) := HA.out.cell 5
    have z6 : w5.cell? ⟨w.heap.size, 6, none⟩ = some (.int .i64 x.n) := HA.out.cell 6
    have z7 : w5.cell? ⟨w.heap.size, 7, none⟩ = some (.int .i64 x.op) := HA.out.cell 7
    have z8 : w5.cell? ⟨w.heap.size, 8, none⟩ = some (.string x.key) := HA.out.cell 8
    have z9 : w5.cell? ⟨w.heap.size, 9, none⟩ = some (.string x.val) := HA.out.cell 9
    have z10 : w5.cell? ⟨w.heap.size, 10, none⟩ = some (.bool x.has) := HA.out.cell 10
    have z11 : w5.cell? ⟨w.heap.size, 11, none⟩ = some (.int .i64 x.code) := HA.out.cell 11
    have y0 : w5.cell? ⟨w.heap.size + 1, 0, none⟩ = some (.int .i64 v.kind) := HR.out.cell 0
    have y1 : w5.cell? ⟨w.heap.size + 1, 1, none⟩ = some (.int .i64 v.frm) := HR.out.cell 1
    have y2 : w5.cell? ⟨w.heap.size + 1, 2, none⟩ = some (.int .i64 v.dst) := HR.out.cell 2
    have y3 : w5.cell? ⟨w.heap.size + 1, 3, none⟩ = some (.int .u64 v.num) := HR.out.cell 3
    have y4 : w5.cell? ⟨w.heap.size + 1, 4, none⟩ = some (.int .i64 v.node) := HR.out.cell 4
    have y5 : w5.cell? ⟨w.heap.size + 1, 5, none⟩ = some (.int .u64 v.life) := HR.out.cell 5
    have y6 : w5.cell? ⟨w.heap.size + 1, 6, none⟩ = some (.int .i64 v.n) := HR.out.cell 6
    have y7 : w5.cell? ⟨w.heap.size + 1, 7, none⟩ = some (.int .i64 v.op) := HR.out.cell 7
    have y8 : w5.cell? ⟨w.heap.size + 1, 8, none⟩ = some (.string v.key) := HR.out.cell 8
    have y9 : w5.cell? ⟨w.heap.size + 1, 9, none⟩ = some (.string v.val) := HR.out.cell 9
    have y10 : w5.cell? ⟨w.heap.size + 1, 10, none⟩ = some (.bool v.has) := HR.out.cell 10
    have y11 : w5.cell? ⟨w.heap.size + 1, 11, none⟩ = some (.int .i64 v.code) := HR.out.cell 11
    clear y
    rcases he2 with ⟨r2, g2, c2, rfl, o2⟩ | ⟨q2, rfl⟩
    · clear o2 r2
      generalize (msgB v).length = n2 at *
      go_wp2
      go_ret
      exact ⟨rfl, HY.out⟩
    · go_wp2
      go_ret
      exact ⟨rfl, HY.out⟩
end Go.Proofs.Ytefmeeffkjendaa

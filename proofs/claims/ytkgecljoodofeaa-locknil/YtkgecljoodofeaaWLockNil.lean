/- LockNil: the walk of the law's Go text. -/
import Derived.Test.YtkgecljoodofeaaLkT
set_option linter.unusedSimpArgs false
set_option linter.unusedVariables false
namespace Go.Proofs.Ytkgecljoodofeaa
open Go.ChangeShapes Go.WideShapes Go.ChangeAt Go.RowKit

set_option maxRecDepth 100000 in
set_option maxHeartbeats 4000000 in
theorem walk_LockNil (x0 y0 : Int) (k : ByteArray) (m : Int) (w : World) (_w0 : (Lit.int .u64 x0).wf = true ∧ (Lit.int .i64 y0).wf = true) (_w1 : k.size ≤ maxLen) (_w2 : (Lit.int .i64 m).wf = true) :
    Calls Try.prog 6 #[.agg #[.int .u64 x0, .int .i64 y0], .string k, .int .i64 m] w fun e w' => e = .returned (.bool true) ∧ Below w.heap.size w w' := by
  clear _w0 _w1 _w2
  obtain ⟨w0, hw0⟩ : ∃ w0, w0 = w.alloc (.cells #[.int .u64 x0, .int .i64 y0] 29) := ⟨_, rfl⟩
  have HE0 : Hid (Ext w w0) := by rw [hw0]; exact ext_one _
  have HB0 : Hid (Blk w0 w.heap.size #[.int .u64 x0, .int .i64 y0] 29) := by rw [hw0]; exact Blk.new _ _ _
  go_enter Try.func6, Try.ntmps6
  go_upto_region 1 with fail
  rw [← hw0]
  clear hw0
  go_wp2_with fail
  refine (head12_any _).mono ?_
  rintro e w1 ⟨rfl, h1⟩
  have HE1 : Hid (Ext w w1) := Ext.trans HE0.out h1
  have HB1 : Hid (Blk w1 w.heap.size #[.int .u64 x0, .int .i64 y0] 29) := HB0.out.below_ h1
  clear h1 HE0 HB0
  have c0 : w1.cell? ⟨w.heap.size, 0, none⟩ = some (.int .u64 x0) := HB1.out.cell 0
  have c1 : w1.cell? ⟨w.heap.size, 1, none⟩ = some (.int .i64 y0) := HB1.out.cell 1
  go_wp2_with fail
  refine (askNil_any ⟨x0, y0⟩ k m w1).mono ?_
  rintro e w2 ⟨rfl, h2⟩
  have HE2 : Hid (Ext w w2) := Ext.trans HE1.out h2
  have HB2 : Hid (Blk w2 w.heap.size #[.int .u64 x0, .int .i64 y0] 29) := HB1.out.below_ h2
  clear h2 c0 c1 HE1 HB1
  have c0 : w2.cell? ⟨w.heap.size, 0, none⟩ = some (.int .u64 x0) := HB2.out.cell 0
  have c1 : w2.cell? ⟨w.heap.size, 1, none⟩ = some (.int .i64 y0) := HB2.out.cell 1
  go_wp2_with fail
  refine (freeNil_any ⟨x0, y0⟩ w2).mono ?_
  rintro e w3 ⟨rfl, h3⟩
  have HE3 : Hid (Ext w w3) := Ext.trans HE2.out h3
  have HB3 : Hid (Blk w3 w.heap.size #[.int .u64 x0, .int .i64 y0] 29) := HB2.out.below_ h3
  clear h3 c0 c1 HE2 HB2
  go_wp2_with fail
  refine (hasNil_any k w3).mono ?_
  rintro e w4 ⟨rfl, h4⟩
  have HE4 : Hid (Ext w w4) := Ext.trans HE3.out h4
  have HB4 : Hid (Blk w4 w.heap.size #[.int .u64 x0, .int .i64 y0] 29) := HB3.out.below_ h4
  clear h4 HE3 HB3
  go_wp2_with fail
  refine (waitingNil_any k w4).mono ?_
  rintro e w5 ⟨rfl, h5⟩
  have HE5 : Hid (Ext w w5) := Ext.trans HE4.out h5
  have HB5 : Hid (Blk w5 w.heap.size #[.int .u64 x0, .int .i64 y0] 29) := HB4.out.below_ h5
  clear h5 HE4 HB4
  have c0 : w5.cell? ⟨w.heap.size, 0, none⟩ = some (.int .u64 x0) := HB5.out.cell 0
  have c1 : w5.cell? ⟨w.heap.size, 1, none⟩ = some (.int .i64 y0) := HB5.out.cell 1
  go_wp2_with fail
  refine (keysNil_any ⟨x0, y0⟩ w5).mono ?_
  rintro e w6 ⟨rfl, h6⟩
  have HE6 : Hid (Ext w w6) := Ext.trans HE5.out h6
  clear h6 HE5 HB5 c0 c1
  go_wp2_with fail
  refine (lenNil_any w6).mono ?_
  rintro e w7 ⟨rfl, h7⟩
  have HE7 : Hid (Ext w w7) := Ext.trans HE6.out h7
  clear h7 HE6
  go_wp2
  go_ret
  exact ⟨rfl, HE7.out⟩
end Go.Proofs.Ytkgecljoodofeaa

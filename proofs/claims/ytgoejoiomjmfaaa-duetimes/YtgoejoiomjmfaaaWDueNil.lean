/- DueNil: the walk of the law's Go text. -/
import Derived.Test.YtgoejoiomjmfaaaDue14
namespace Go.Proofs.Ytgoejoiomjmfaaa
open Go.ChangeShapes Go.WideShapes Go.ChangeAt Go.RowKit

theorem Blk.bel {a w : World} {b : Nat} {c : Array Value} {T : TypeId} (h : Blk a b c T) (hb : Below a.heap.size a w) : Blk w b c T := h.of (hb.block b h.lt)
theorem bel_trans {a b c : World} (h : Below a.heap.size a b) (k : Below b.heap.size b c) : Below a.heap.size a c := h.trans (k.mono h.size)

set_option maxHeartbeats 2000000 in
theorem walk_DueNil (k at_ x y : Int) (w : World) (_h0 : (Lit.int .i64 k).wf = true) (_h1 : (Lit.int .i64 at_).wf = true) (_h2 : (Lit.int .u64 x).wf = true ∧ (Lit.int .i64 y).wf = true) :
    Calls Try.prog 5 #[.int .i64 k, .int .i64 at_, .agg #[.int .u64 x, .int .i64 y]] w fun e w' => e = .returned (.bool true) ∧ Below w.heap.size w w' := by
  have HW0 : Hid (Below w.heap.size w (w.alloc (.cells #[.int .u64 x, .int .i64 y] 29))) := (Below.refl _ _).alloc (Nat.le_refl _) _
  have HK0 : Hid (Blk (w.alloc (.cells #[.int .u64 x, .int .i64 y] 29)) w.heap.size #[.int .u64 x, .int .i64 y] 29) := Blk.new _ _ _
  go_enter Try.func5, Try.ntmps5
  go_wp2_with fail
  refine (head_any _).mono ?_
  rintro e w1 ⟨rfl, hb1⟩
  have HW1 : Hid (Below w.heap.size w w1) := bel_trans HW0.out hb1
  have HK1 : Hid (Blk w1 w.heap.size #[.int .u64 x, .int .i64 y] 29) := HK0.out.bel hb1
  have c0 : w1.cell? ⟨w.heap.size, 0, none⟩ = some (.int .u64 x) := HK1.out.cell 0
  have c1 : w1.cell? ⟨w.heap.size, 1, none⟩ = some (.int .i64 y) := HK1.out.cell 1
  clear hb1
  go_wp2_with fail
  refine (set_nil _ _ _ _ x y rfl).mono ?_
  rintro e w2 ⟨rfl, hb2⟩
  have HW2 : Hid (Below w.heap.size w w2) := bel_trans HW1.out hb2
  have HK2 : Hid (Blk w2 w.heap.size #[.int .u64 x, .int .i64 y] 29) := HK1.out.bel hb2
  have d0 : w2.cell? ⟨w.heap.size, 0, none⟩ = some (.int .u64 x) := HK2.out.cell 0
  have d1 : w2.cell? ⟨w.heap.size, 1, none⟩ = some (.int .i64 y) := HK2.out.cell 1
  clear hb2
  go_wp2_with fail
  refine (when_nil _ _ _ x y rfl).mono ?_
  rintro e w3 ⟨rfl, hb3⟩
  have HW3 : Hid (Below w.heap.size w w3) := bel_trans HW2.out hb3
  have HK3 : Hid (Blk w3 w.heap.size #[.int .u64 x, .int .i64 y] 29) := HK2.out.bel hb3
  clear hb3
  go_wp2_with fail
  refine (next_nil _ _).mono ?_
  rintro e w4 ⟨rfl, hb4⟩
  have HW4 : Hid (Below w.heap.size w w4) := bel_trans HW3.out hb4
  have HK4 : Hid (Blk w4 w.heap.size #[.int .u64 x, .int .i64 y] 29) := HK3.out.bel hb4
  have e0 : (w4.alloc (.cells #[.int .i64 0, .int .i64 0, .int .u64 0, .int .i64 0] 34)).cell? ⟨w.heap.size, 0, none⟩ = some (.int .u64 x) := (HK4.out.alloc _).cell 0
  have e1 : (w4.alloc (.cells #[.int .i64 0, .int .i64 0, .int .u64 0, .int .i64 0] 34)).cell? ⟨w.heap.size, 1, none⟩ = some (.int .i64 y) := (HK4.out.alloc _).cell 1
  clear hb4
  rw [show entV noEnt = .agg #[.int .i64 0, .int .i64 0, .int .u64 0, .int .i64 0] from rfl]
  go_wp2_with fail
  refine (drop_nil _ _ _ x y rfl).mono ?_
  rintro e w5 ⟨rfl, hb5⟩
  have HW5 : Hid (Below w.heap.size w w5) := bel_trans (HW4.out.alloc HW4.out.size _) hb5
  clear hb5
  go_wp2_with fail
  refine (len_nil _).mono ?_
  rintro e w' ⟨rfl, hw⟩; rw [hw]; clear hw w'
  go_wp2_with fail
  go_ret
  exact ⟨rfl, HW5.out⟩
end Go.Proofs.Ytgoejoiomjmfaaa

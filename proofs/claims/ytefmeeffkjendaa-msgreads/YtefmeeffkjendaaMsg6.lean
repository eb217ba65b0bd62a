/- msg: the law's bytes; whether two messages are one. Own lemmas, no statement. -/
import Derived.Test.YtefmeeffkjendaaMsg4
import Derived.Laws.StructEq
set_option linter.unusedSimpArgs false
set_option linter.unusedVariables false
namespace Go.Proofs.Ytefmeeffkjendaa
open Go.ChangeShapes Go.WideShapes Go.ChangeAt Go.RowKit

def exM : MsgQ := ⟨8, 1, 0, 5, 0, 0, 0, 0, ⟨#[]⟩, ⟨#[]⟩, false, 0⟩
theorem exM_right : RightM exM := (right_iff exM).1 (by kernel_rfl)
theorem exM_wf : exM.Wf := exM_right.wf (by decide) (by decide)
theorem exM_bytes : msgB exM = [8, 1, 0, 5, 0] := by kernel_rfl
set_option maxHeartbeats 1000000 in
theorem head15_any (w : World) : Calls Try.prog 7 #[] w fun e w' => e = .returned (.bool true) ∧ Below w.heap.size w w' := by
  have HX : Hid (Calls Try.prog 8 #[.agg #[.int .i64 8, .int .i64 1, .int .i64 0, .int .u64 5, .int .i64 0, .int .u64 0, .int .i64 0, .int .i64 0, .string ⟨#[]⟩, .string ⟨#[]⟩, .bool false, .int .i64 0]] w (EncM exM w)) := encode_any exM w exM_wf
  go_enter Try.func7, Try.ntmps7
  go_wp2_with fail
  refine HX.out.mono ?_
  rintro e w1 ⟨h, y⟩
  rcases h with ⟨_, g, cap, rfl, ho⟩ | ⟨h, _⟩
  · rw [exM_bytes] at ho ⊢
    have hs : (convert 29 9 (.slice (some ⟨g, 0, none⟩) 5 cap)).run Try.prog w1 = .ok (.string ⟨#[8, 1, 0, 5, 0]⟩) w1 := ho.src.str
    have HY : Hid (Below w.heap.size w w1) := y
    clear ho y HX
    go_wp2
    go_ret
    exact ⟨rfl, HY.out⟩
  · exact absurd exM_right h
end Go.Proofs.Ytefmeeffkjendaa

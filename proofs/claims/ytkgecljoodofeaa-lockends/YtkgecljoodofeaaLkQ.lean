/- lock: a nil table; a mode that is none. Own lemmas, no statement. -/
import Derived.Test.YtkgecljoodofeaaLkO
set_option linter.unusedSimpArgs false
set_option linter.unusedVariables false
namespace Go.Proofs.Ytkgecljoodofeaa
open Go.ChangeShapes Go.WideShapes Go.ChangeAt Go.RowKit

theorem results_oneL {fn : Func} {p : Tmp} {P : Program} {ty : TypeId} (h : fn.results = #[.cell p ty]) (tmps : Array Value) (w : World) (r : Nat) (t : TypeId) (cs : Array Value) (d : TypeDesc) (hp : tmps.getD p undef = .pointer (some ⟨r, 0, none⟩)) (hg : Blk w r cs t)
    (hu : P.underlying ty = some d) (hd : (match d with | .struct _ | .array _ _ => true | _ => false) = true) (hi : (P.info? ty).map (·.size) = some cs.size) : (results fn tmps).run P w = .ok (.agg cs) w := by
  have e : (results fn tmps).run P w = (do loadVar ty (← asAddr (tmps.getD p undef)) : Sem Value).run P w := by
    unfold results
    simp [h]
  rw [e, hp]
  simp [asAddr, run_loadVar_row w r t ty cs (0, 0) d hg hu hd hi]
theorem line_field (a b : Value) (w : World) : (Instr.field 67 (.agg #[a, b]) 0).run Try.prog w = .ok a w ∧ (Instr.field 67 (.agg #[a, b]) 1).run Try.prog w = .ok b w := ⟨by kernel_rfl, by kernel_rfl⟩
theorem askBad_any (g : Nat) (t : Td) (k : ByteArray) (m : Int) (w : World) (h1 : m ≠ 1) (h2 : m ≠ 2) :
    Calls Try.prog 12 #[.pointer (some ⟨g, 0, none⟩), .agg #[.int .u64 t.num, .int .i64 t.node], .string k, .int .i64 m] w fun e w' => e = .returned (.int .i64 3) ∧ Ext w w' := by
  have e1 : (m == 1) = false := beq_eq_false_iff_ne.2 h1
  have e2 : (m == 2) = false := beq_eq_false_iff_ne.2 h2
  have e3 : (m != 1) = true := by simp [h1]
  have e4 : (m != 2) = true := by simp [h2]
  clear h1 h2
  go_enter Try.func12, Try.ntmps12
  go_wp2
  go_ret
  exact ⟨rfl, ext_one _⟩
end Go.Proofs.Ytkgecljoodofeaa

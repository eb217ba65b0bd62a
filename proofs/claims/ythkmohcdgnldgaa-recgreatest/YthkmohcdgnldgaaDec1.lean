/- Reading pages: readPage, noughts; single operations of drawn regions that read into a page's lists. Own lemmas, no statement. -/
import Derived.Test.YthkmohcdgnldgaaReader
import Derived.Test.YthkmohcdgnldgaaBox
import Derived.Test.YthkmohcdgnldgaaOps
import Derived.Test.YthkmohcdgnldgaaPg7
namespace Go.Proofs.Ythkmohcdgnldgaa
open Go.ChangeShapes Go.WideShapes Go.ChangeAt Go.RowKit

def noughtsB (l : List UInt8) : Bool := l.all (· == 0)

theorem exec_buildS {ρ : Operand → Value} {o : Oper} {w : World} {x : Operand} {s : ByteArray} (ho : o.op = .buildSlice 28 1 #[(0, x)]) (hx : ρ x = .string s) : (execOp ρ o).run Try.prog w = .ok (.value (.slice (some ⟨w.heap.size, 0, none⟩) 1 1)) (w.alloc (.cells #[.string s] 9)) := by
  unfold execOp
  rw [ho]
  go_simp
theorem exec_buildI {ρ : Operand → Value} {o : Oper} {w : World} {x : Operand} {s : Int} (ho : o.op = .buildSlice 29 1 #[(0, x)]) (hx : ρ x = .int .i64 s) : (execOp ρ o).run Try.prog w = .ok (.value (.slice (some ⟨w.heap.size, 0, none⟩) 1 1)) (w.alloc (.cells #[.int .i64 s] 3)) := by
  unfold execOp
  rw [ho]
  go_simp
theorem exec_app {ρ : Operand → Value} {o : Oper} {w w' : World} {s x : Operand} {t : TypeId} {v vx v' : Value} (ho : o.op = .call { callee := .builtin .append, args := #[s, x], argTypes := #[t, t] }) (hs : ρ s = v) (hx : ρ x = vx) (hr : (Builtin.append_ #[t, t] o.type #[v, vx]).run Try.prog w = .ok v' w') : (execOp ρ o).run Try.prog w = .ok (.value v') w' := by
  unfold execOp
  simp only [ho, resolve, invoke, builtin, Sem.run_bind, Sem.run_pure, Result.andThen_ok, List.map_toArray, List.map_cons, List.map_nil, hs, hx, hr]

/-- What an append of one text does. -/
theorem run_pushS (W : World) (ty : TypeId) (B : Nat) (v : Value) (ks : List ByteArray) (k : ByteArray) (hown : OwnV W B 9 v (sv ks)) (hl : ks.length < 1099511627776) (hB : B ≤ W.heap.size) :
    ∃ a' n' c' W', (Builtin.append_ #[28, 28] ty #[v, .slice (some ⟨W.heap.size, 0, none⟩) 1 1]).run Try.prog (W.alloc (.cells #[.string k] 9)) = .ok (.slice a' n' c') W' ∧ OwnV W' B 9 (.slice a' n' c') (sv (ks ++ [k])) ∧ (W.alloc (.cells #[.string k] 9)).grownBy W' v.ownBlock ∧ ((Value.slice a' n' c').ownBlock = v.ownBlock ∨ (Value.slice a' n' c').ownBlock = some (W.heap.size + 1)) := by
  obtain ⟨i0, hi, hz0, hz1, hz2⟩ := info_parts infoS
  obtain ⟨v', w', hr, h1, h2, _, h4⟩ := run_append_own_at (P := Try.prog) (W.alloc (.cells #[.string k] 9)) B 28 ty 9 i0 (.string ⟨#[]⟩) 1 16 Try.underlying28 hi hz0 hz1 hz2 rfl (by decide) v (sv ks).length (sv ks) (World.ownsRow.alloc hown _) ⟨W.heap.size, 0, none⟩ 1 1 [.string k] rfl (cell_one_new _ _ _) (by intro u hu; simp at hu; subst hu; rfl) (by rw [sv_length]; unfold maxLen; omega) (by rw [sv_length]; omega) (by simp; omega)
  have h5 : OwnV w' B 9 v' (sv (ks ++ [k])) := by
    unfold OwnV
    simpa [sv] using h1
  obtain ⟨a', c', rfl⟩ := h5.rd.form
  exact ⟨a', _, c', w', hr, h5, h2, by simpa using h4⟩
theorem run_pushI (W : World) (ty : TypeId) (B : Nat) (v : Value) (ks : List Int) (k : Int) (hown : OwnV W B 3 v (iv ks)) (hl : ks.length < 1099511627776) (hB : B ≤ W.heap.size) :
    ∃ a' n' c' W', (Builtin.append_ #[29, 29] ty #[v, .slice (some ⟨W.heap.size, 0, none⟩) 1 1]).run Try.prog (W.alloc (.cells #[.int .i64 k] 3)) = .ok (.slice a' n' c') W' ∧ OwnV W' B 3 (.slice a' n' c') (iv (ks ++ [k])) ∧ (W.alloc (.cells #[.int .i64 k] 3)).grownBy W' v.ownBlock ∧ ((Value.slice a' n' c').ownBlock = v.ownBlock ∨ (Value.slice a' n' c').ownBlock = some (W.heap.size + 1)) := by
  obtain ⟨i0, hi, hz0, hz1, hz2⟩ := info_parts infoI
  obtain ⟨v', w', hr, h1, h2, _, h4⟩ := run_append_own_at (P := Try.prog) (W.alloc (.cells #[.int .i64 k] 3)) B 29 ty 3 i0 (.int .i64 0) 1 8 Try.underlying29 hi hz0 hz1 hz2 rfl (by decide) v (iv ks).length (iv ks) (World.ownsRow.alloc hown _) ⟨W.heap.size, 0, none⟩ 1 1 [.int .i64 k] rfl (cell_one_new _ _ _) (by intro u hu; simp at hu; subst hu; rfl) (by rw [iv_length]; unfold maxLen; omega) (by rw [iv_length]; omega) (by simp; omega)
  have h5 : OwnV w' B 3 v' (iv (ks ++ [k])) := by
    unfold OwnV
    simpa [iv] using h1
  obtain ⟨a', c', rfl⟩ := h5.rd.form
  exact ⟨a', _, c', w', hr, h5, h2, by simpa using h4⟩

section
variable {W W' : World} {B b g rb : Nat} {p : Pg} {kv vv dv v' : Value} {l l' : List UInt8} {err err' : Nat} {o : Obj}
end
end Go.Proofs.Ythkmohcdgnldgaa

/- Single operations inside a region that draws its order: a call, an append. Own lemmas, no statement. -/
import Derived.Test.YtopnblhedankcaaCodes
namespace Go.Proofs.Ytopnblhedankcaa
open Go.ChangeShapes Go.WideShapes Go.ChangeAt Go.RowKit

section
variable {ops : Array Oper} {Q : Exit → Act → World → Prop} {K : Act → World → Prop} {i : Nat} {o : Oper} {a : Act} {w : World}

theorem wpOp_enter {P : Program} {f : FuncId} {args : Array Value} {R : Ending → World → Prop} (d : Tmp) (ho : ops[i]? = some o) (hw : Region.wanted o (yielded ops a.tmps) = true) (hd : o.dst = some d) (hx : (execOp a.eval o).run P w = .ok (.enter f args) w) (hc : Calls P f args w R)
    (h : ∀ e w', R e w' → ∃ v, e = .returned v ∧ K (a.put (some d) v) w') : wpOp P ops Q i K a w := by
  unfold wpOp
  simp only [ho, hw, if_true]
  refine .inl ?_
  unfold Oper.wp
  rw [hx]
  simp only [Oper.upon]
  refine hc.mono fun e w' he => ?_
  obtain ⟨v, rfl, hk⟩ := h e w' he
  rw [hd]
  exact hk

theorem wpOp_join (d : Tmp) (ho : ops[i]? = some o) (hw : Region.wanted o (yielded ops a.tmps) = true) (hd : o.dst = some d) (s x : Operand)
    (hop : o.op = .call { callee := .builtin .append, args := #[s, x], argTypes := #[26, 26] })
    (B : Nat) (v : Value) (l m : List UInt8) (hown : Own w B v l) (hs : a.eval s = v) (gx cx : Nat) (hsrc : Src w (.slice (some ⟨gx, 0, none⟩) m.length cx) m) (hx : a.eval x = .slice (some ⟨gx, 0, none⟩) m.length cx)
    (hl : l.length + m.length < 1099511627776) (hB : B ≤ w.heap.size)
    (h : ∀ v' w', Own w' B v' (join l m) → w.grownBy w' v.ownBlock → (v'.ownBlock = v.ownBlock ∨ v'.ownBlock = some w.heap.size) → K (a.put (some d) v') w') : wpOp Try.prog ops Q i K a w := by
  obtain ⟨i0, hi, hz0, hz1, hz2⟩ := info_parts info8
  obtain ⟨_, h1, h2, h3, h4⟩ := hsrc.at
  obtain ⟨v', w', hr, k1, k2, _, k4⟩ := run_append_own_at (P := Try.prog) w B 26 o.type 5 i0 (.int .u8 0) 1 1 Try.underlying26 hi hz0 hz1 hz2 rfl (by decide) v l.length (bv l) hown ⟨gx, 0, none⟩ m.length cx (bv m) (by rw [bv_length]; omega) (h4 _ rfl) (bv_one m) (by unfold maxLen; omega) (by omega) hB
  unfold wpOp
  simp only [ho, hw, if_true]
  refine .inl ?_
  unfold Oper.wp execOp
  simp only [hop, resolve, invoke, builtin, Sem.run_bind, Sem.run_pure, Result.andThen_ok, List.map_toArray, List.map_cons, List.map_nil, hs, hx, hr, Oper.upon]
  rw [hd]
  refine h v' w' ?_ k2 k4
  unfold Own join
  rw [List.length_append, bv_append]
  exact k1
end
end Go.Proofs.Ytopnblhedankcaa

/- Single operations when they come up in a region that draws its order. Own lemmas, no statement. -/
import Derived.Test.YtkgecljoodofeaaSeg
import Derived.Test.YtkgecljoodofeaaBlk
import Derived.RegionTactic
namespace Go.Proofs.Ytkgecljoodofeaa
open Go.RowKit

section
variable {P : Program} {ops : Array Oper} {Q : Exit → Act → World → Prop} {K : Act → World → Prop} {i : Nat} {o : Oper} {a : Act} {w w' : World}
theorem wpOp_value {v : Value} (d : Tmp) (ho : ops[i]? = some o) (hw : Region.wanted o (yielded ops a.tmps) = true) (hd : o.dst = some d) (hx : (execOp a.eval o).run P w = .ok (.value v) w') (h : K (a.put (some d) v) w') : wpOp P ops Q i K a w := by
  unfold wpOp
  simp only [ho, hw, if_true]
  refine .inl ?_
  unfold Oper.wp
  rw [hx]
  simp only [Oper.upon]
  rw [hd]
  exact h
theorem wpOp_void {v : Value} (ho : ops[i]? = some o) (hw : Region.wanted o (yielded ops a.tmps) = true) (hd : o.dst = none) (hx : (execOp a.eval o).run P w = .ok (.value v) w') (h : K a w') : wpOp P ops Q i K a w := by
  unfold wpOp
  simp only [ho, hw, if_true]
  refine .inl ?_
  unfold Oper.wp
  rw [hx]
  simp only [Oper.upon]
  rw [hd]
  exact h
theorem exec_load1 {ρ : Operand → Value} {ty : TypeId} {x : Operand} {b p : Nat} {v : Value} {d : TypeDesc} (ho : o.op = .load ty x) (hx : ρ x = .pointer (some ⟨b, p, none⟩)) (hu : P.underlying ty = some d) (hd : d.isRow = false) (hc : w.cell? ⟨b, p, none⟩ = some v) : (execOp ρ o).run P w = .ok (.value v) w := by
  have hagg : (isAgg ty).run P w = .ok false w := by
    unfold isAgg
    rw [Sem.run_bind, run_underlying hu w]
    cases d <;> simp_all [TypeDesc.isRow]
  unfold execOp
  simp only [ho, hx, Instr.loadAt, Instr.sureAddr, Sem.run_bind, Sem.run_pure, Result.andThen_ok]
  simp [loadVar, Sem.run_bind, hagg, hc]
theorem run_storeVar_at (w : World) (b p : Nat) (ty : TypeId) (v : Value) (ht : w.there b p 1) (hi : (P.info? ty).map (·.size) = some 1) (h1 : v.oneCell' = true) :
    (storeVar ty ⟨b, p, none⟩ v).run P w = .ok () (w.setCell ⟨b, p, none⟩ v) := by
  have := run_storeCells_cells (P := P) b p [v] 0 w (fun j hj => by simpa using (ht j (by simpa using hj)).1) (fun j hj => by simpa using (ht j (by simpa using hj)).2) (fun x hx => by simp at hx; subst hx; exact h1)
  have hc : v.cells = #[v] := by cases v <;> first | rfl | cases h1
  cases hq : P.info? ty with
  | none => simp [hq] at hi
  | some i =>
    have hs : i.size = 1 := by simpa [hq] using hi
    simp only [Nat.add_zero] at this
    simp [storeVar, sizeOf, typeInfo, hq, hc, hs, this, World.setCells]
/-- A store of one cell, when it comes up. -/
theorem wpOp_store1 (ho : ops[i]? = some o) (hw : Region.wanted o (yielded ops a.tmps) = true) (ty : TypeId) (x y : Operand) (hop : o.op = .store ty x y) (hd : o.dst = none)
    (b p : Nat) (u : Value) (hx : a.eval x = .pointer (some ⟨b, p, none⟩)) (hy : a.eval y = u) (ht : w.there b p 1) (hi : (P.info? ty).map (·.size) = some 1) (h1 : u.oneCell' = true)
    (h : K a (w.setCell ⟨b, p, none⟩ u)) : wpOp P ops Q i K a w := by
  unfold wpOp
  simp only [ho, hw, if_true]
  refine .inl ?_
  unfold Oper.wp execOp
  simp only [hop, hx, hy, Instr.storeAt, Instr.sureAddr, Sem.run_bind, Sem.run_pure, Result.andThen_ok, run_storeVar_at w b p ty u ht hi h1]
  simp only [Oper.upon]
  rw [hd]
  exact h
/-- A store of a struct, when it comes up. -/
theorem wpOp_storeN (ho : ops[i]? = some o) (hw : Region.wanted o (yielded ops a.tmps) = true) (ty : TypeId) (x y : Operand) (hop : o.op = .store ty x y) (hd : o.dst = none)
    (b p : Nat) (cs : Array Value) (hx : a.eval x = .pointer (some ⟨b, p, none⟩)) (hy : a.eval y = .agg cs) (ht : w.there b p cs.size) (hi : (P.info? ty).map (·.size) = some cs.size) (h1 : cs.all (·.oneCell') = true)
    (h : K a (w.setCells b p cs.toList)) : wpOp P ops Q i K a w := by
  unfold wpOp
  simp only [ho, hw, if_true]
  refine .inl ?_
  refine wp_store_mid ty x y hop b p cs hx hy ht hi h1 ?_
  rw [hd]
  simpa [Act.put] using h
end
theorem thereN {w : World} {b p : Nat} {c : Array Value} {T : TypeId} (n : Nat) (h : Blk w b c T) (hp : p + n ≤ c.size) : w.there b p n := fun j hj => by
  exact ⟨by rw [h.cell]; simp; omega, h.frozen _⟩
end Go.Proofs.Ytkgecljoodofeaa

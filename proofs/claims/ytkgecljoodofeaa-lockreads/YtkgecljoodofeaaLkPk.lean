/- lock: rows of texts, and of transactions, that grow. Own lemmas, no statement. -/
import Derived.Test.YtkgecljoodofeaaLkK3
import Derived.Test.YtkgecljoodofeaaOpenL12
set_option linter.unusedSimpArgs false
set_option linter.unusedVariables false
namespace Go.Proofs.Ytkgecljoodofeaa
open Go.ChangeShapes Go.WideShapes Go.ChangeAt Go.RowKit

theorem OwnK.at_ {w : World} {B g n c : Nat} {ls : List ByteArray} (h : OwnK w B (.slice (some ⟨g, 0, none⟩) n c) ls) {i : Nat} (hi : i < ls.length) : w.cell? ⟨g, i, none⟩ = some (.string ls[i]) := (h.spot hi).1

/-! Transactions. -/
def zT : Value := .agg #[.int .u64 0, .int .i64 0]
theorem infoT : (Try.prog.info? 29).map (fun i => (i.zero, i.size, i.bytes)) = some (some zT, 2, 16) := by kernel_rfl
def Td.cs (t : Td) : List Value := [.int .u64 t.num, .int .i64 t.node]
def flatT (ls : List Td) : List Value := (ls.map Td.cs).flatten
theorem flatT_len (ls : List Td) : (flatT ls).length = ls.length * 2 := by
  unfold flatT
  induction ls with
  | nil => rfl
  | cons x t ih => simp only [List.map_cons, List.flatten_cons, List.length_append, ih, List.length_cons, Td.cs, List.length_nil]; omega
theorem flatT_app (a b : List Td) : flatT (a ++ b) = flatT a ++ flatT b := by unfold flatT; rw [List.map_append, List.flatten_append]
theorem flatT_at : ∀ {ls : List Td} {i : Nat} (h : i < ls.length), (flatT ls)[i * 2]? = some (.int .u64 ls[i].num) ∧ (flatT ls)[i * 2 + 1]? = some (.int .i64 ls[i].node)
  | x :: r, 0, h => by simp [flatT, Td.cs]
  | x :: r, i + 1, h => by
    have ih := flatT_at (ls := r) (i := i) (by simpa using h)
    have e : flatT (x :: r) = x.cs ++ flatT r := by simp [flatT]
    rw [e]
    have s : ∀ k, (x.cs ++ flatT r)[(i + 1) * 2 + k]? = (flatT r)[i * 2 + k]? := fun k => by
      rw [List.getElem?_append_right (by simp [Td.cs]; omega)]
      congr 1
      simp [Td.cs]
      omega
    have s0 := s 0
    simp only [Nat.add_zero] at s0
    rw [s0, s 1]
    simpa using ih
/-- An own row of transactions. -/
def OwnT (w : World) (B : Nat) (v : Value) (ls : List Td) : Prop := w.ownsRow B 29 2 v ls.length (flatT ls)
theorem OwnT.kept {w w' : World} {B : Nat} {v : Value} {ls : List Td} (h : OwnT w B v ls) (hb : ∀ g, v.ownBlock = some g → w'.heap[g]? = w.heap[g]?) : OwnT w' B v ls := by
  refine ⟨h.1, ?_⟩
  rcases h.2 with hn | ⟨g, cap, cur, rfl, hbg, hgg, rest⟩
  · exact .inl hn
  · exact .inr ⟨g, cap, cur, rfl, hbg, by rw [hb g rfl]; exact hgg, rest⟩
theorem OwnT.below {w w' : World} {B : Nat} {v : Value} {ls : List Td} (h : OwnT w B v ls) (hb : Ext w w') : OwnT w' B v ls := h.kept fun g hg => hb.block g (World.ownsRow.lt h g hg).2
theorem OwnT.blk {w : World} {B : Nat} {v : Value} {ls : List Td} (h : OwnT w B v ls) {b : Nat} (hb : v.ownBlock = some b) : B ≤ b ∧ b < w.heap.size ∧ ∃ c, Blk w b c 29 := by
  rcases h.2 with ⟨rfl, _⟩ | ⟨g, c, cur, rfl, h1, h2, _⟩
  · cases hb
  · cases hb
    exact ⟨h1, Blk.lt h2, cur, h2⟩
theorem OwnT.form {w : World} {B : Nat} {v : Value} {ls : List Td} (h : OwnT w B v ls) : ∃ ao c, v = .slice ao ls.length c ∧ ls.length ≤ c ∧ c ≤ maxLen ∧ (∀ i (hi : i < ls.length), ∃ g, ao = some ⟨g, 0, none⟩ ∧ w.cell? ⟨g, i * 2, none⟩ = some (.int .u64 ls[i].num) ∧ w.cell? ⟨g, i * 2 + 1, none⟩ = some (.int .i64 ls[i].node)) := by
  rcases h.2 with ⟨rfl, h0⟩ | ⟨g, c, cur, rfl, h1, h2, h3, h4, h5, h6⟩
  · exact ⟨none, 0, by rw [h0], by omega, Nat.zero_le _, fun i hi => by omega⟩
  · refine ⟨_, c, rfl, h3, h4, fun i hi => ⟨g, rfl, ?_⟩⟩
    obtain ⟨a, b⟩ := flatT_at hi
    have a1 := World.ownsRow.cells h rfl _ _ a
    have b1 := World.ownsRow.cells h rfl _ _ b
    rw [add0] at a1 b1
    exact ⟨a1, b1⟩
theorem OwnT.madeT (w : World) : OwnT (w.alloc (.cells #[] 29)) w.heap.size (.slice (some ⟨w.heap.size, 0, none⟩) 0 0) [] := World.ownsRow_made w #[] 0 (Nat.le_refl _) (Nat.zero_le _) rfl
theorem run_pushT (W : World) (ty : TypeId) (B : Nat) (v : Value) (ls : List Td) (x : Td) (h : Nat) (hown : OwnT W B v ls) (hx : Blk W h #[.int .u64 x.num, .int .i64 x.node] 29) (hl : ls.length ≤ 1000000) (hB : B ≤ W.heap.size) :
    ∃ v' W', (Builtin.append_ #[53, 53] ty #[v, .slice (some ⟨h, 0, none⟩) 1 1]).run Try.prog W = .ok v' W' ∧ OwnT W' B v' (ls ++ [x]) ∧ W.grownBy W' v.ownBlock ∧ (v'.ownBlock = v.ownBlock ∨ v'.ownBlock = some W.heap.size) := by
  obtain ⟨i0, hi, hz0, hz1, hz2⟩ := info_parts infoT
  have hcells : ∀ j u, (flatT [x])[j]? = some u → W.cell? ((⟨h, 0, none⟩ : Addr).add j) = some u := fun j u hj => by
    rw [add0, hx.cell]
    have e : flatT [x] = [.int .u64 x.num, .int .i64 x.node] := by simp [flatT, Td.cs]
    rw [e] at hj
    simpa using hj
  have hone : ∀ u ∈ flatT [x], u.oneCell' = true := fun u hu => by
    simp [flatT, Td.cs] at hu
    rcases hu with rfl | rfl <;> rfl
  obtain ⟨v', w', hr, k1, k2, _, k4⟩ := run_append_own_at (P := Try.prog) W B 53 ty 29 i0 zT 2 16 Try.underlying53 hi hz0 hz1 hz2 rfl (by decide) v ls.length (flatT ls) hown ⟨h, 0, none⟩ 1 1 (flatT [x]) (by rw [flatT_len]; rfl) hcells hone (by unfold maxLen; omega) (by omega) hB
  refine ⟨v', w', hr, ?_, k2, k4⟩
  unfold OwnT
  rw [List.length_append, flatT_app]
  exact k1
theorem wpList_pushT {ops : Array Oper} {rest : List Oper} {o : Oper} {a : Act} {Q : Exit → Act → World → Prop} (w : World) (hgd : o.guard = none) (s x : Operand)
    (ho : o.op = .call { callee := .builtin .append, args := #[s, x], argTypes := #[53, 53] })
    (B : Nat) (v : Value) (ls : List Td) (y : Td) (h : Nat) (hown : OwnT w B v ls) (hs : a.eval s = v) (hb : Blk w h #[.int .u64 y.num, .int .i64 y.node] 29) (hx : a.eval x = .slice (some ⟨h, 0, none⟩) 1 1) (hl : ls.length ≤ 1000000) (hB : B ≤ w.heap.size)
    (hK : ∀ v' w', OwnT w' B v' (ls ++ [y]) → w.grownBy w' v.ownBlock → (v'.ownBlock = v.ownBlock ∨ v'.ownBlock = some w.heap.size) → wpList Try.prog ops Q rest (a.put o.dst v') w') :
    wpList Try.prog ops Q (o :: rest) a w := by
  refine wpList_plain hgd fun K hK' => ?_
  obtain ⟨v', w', hr, k1, k2, k3⟩ := run_pushT w o.type B v ls y h hown hb hl hB
  unfold Oper.wp execOp
  simp only [ho, resolve, invoke, builtin, Sem.run_bind, Sem.run_pure, Result.andThen_ok, List.map_toArray, List.map_cons, List.map_nil, hs, hx, hr]
  exact hK' _ _ (hK v' w' k1 k2 k3)
end Go.Proofs.Ytkgecljoodofeaa

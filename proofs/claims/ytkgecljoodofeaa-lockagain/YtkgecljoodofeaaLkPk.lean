/- lock: rows of texts, and of transactions, that grow. Own lemmas, no statement. -/
import Derived.Test.YtkgecljoodofeaaLkK3
import Derived.Test.YtkgecljoodofeaaOpenL12
set_option linter.unusedSimpArgs false
set_option linter.unusedVariables false
namespace Go.Proofs.Ytkgecljoodofeaa
open Go.ChangeShapes Go.WideShapes Go.ChangeAt Go.RowKit

theorem OwnK.at_ {w : World} {B g n c : Nat} {ls : List ByteArray} (h : OwnK w B (.slice (some ⟨g, 0, none⟩) n c) ls) {i : Nat} (hi : i < ls.length) : w.cell? ⟨g, i, none⟩ = some (.string ls[i]) := (h.spot hi).1

/-! Transactions. -/
def Td.cs (t : Td) : List Value := [.int .u64 t.num, .int .i64 t.node]
def flatT (ls : List Td) : List Value := (ls.map Td.cs).flatten
theorem flatT_at : ∀ {ls : List Td} {i : Nat} (h : i < ls.length), (flatT ls)[i * 2]? = some (.int .u64 ls[i].num) ∧ (flatT ls)[i * 2 + 1]? = some (.int .i64 ls[i].node)
  | x :: r, 0, h => by simp [flatT, Td.cs]
  | x :: r, i + 1, h => by
    have ih := flatT_at (ls := r) (i := i) (by simpa using h)
    have e : flatT (x :: r) = x.cs ++ flatT r := by simp [flatT]
    rw [e]
    have s : ∀ k, (x.cs ++ flatT r)[(i + 1) * 2 + k]? = (flatT r)[i * 2 + k]? := fun k => by
      rw [List.getElem?_append_right (by simp [Td.cs]; omega)]
      congr 1
      simp [Td.cs]
      omega
    have s0 := s 0
    simp only [Nat.add_zero] at s0
    rw [s0, s 1]
    simpa using ih
/-- An own row of transactions. -/
def OwnT (w : World) (B : Nat) (v : Value) (ls : List Td) : Prop := w.ownsRow B 29 2 v ls.length (flatT ls)
theorem OwnT.kept {w w' : World} {B : Nat} {v : Value} {ls : List Td} (h : OwnT w B v ls) (hb : ∀ g, v.ownBlock = some g → w'.heap[g]? = w.heap[g]?) : OwnT w' B v ls := by
  refine ⟨h.1, ?_⟩
  rcases h.2 with hn | ⟨g, cap, cur, rfl, hbg, hgg, rest⟩
  · exact .inl hn
  · exact .inr ⟨g, cap, cur, rfl, hbg, by rw [hb g rfl]; exact hgg, rest⟩
theorem OwnT.below {w w' : World} {B : Nat} {v : Value} {ls : List Td} (h : OwnT w B v ls) (hb : Ext w w') : OwnT w' B v ls := h.kept fun g hg => hb.block g (World.ownsRow.lt h g hg).2
theorem OwnT.blk {w : World} {B : Nat} {v : Value} {ls : List Td} (h : OwnT w B v ls) {b : Nat} (hb : v.ownBlock = some b) : B ≤ b ∧ b < w.heap.size ∧ ∃ c, Blk w b c 29 := by
  rcases h.2 with ⟨rfl, _⟩ | ⟨g, c, cur, rfl, h1, h2, _⟩
  · cases hb
  · cases hb
    exact ⟨h1, Blk.lt h2, cur, h2⟩
theorem OwnT.form {w : World} {B : Nat} {v : Value} {ls : List Td} (h : OwnT w B v ls) : ∃ ao c, v = .slice ao ls.length c ∧ ls.length ≤ c ∧ c ≤ maxLen ∧ (∀ i (hi : i < ls.length), ∃ g, ao = some ⟨g, 0, none⟩ ∧ w.cell? ⟨g, i * 2, none⟩ = some (.int .u64 ls[i].num) ∧ w.cell? ⟨g, i * 2 + 1, none⟩ = some (.int .i64 ls[i].node)) := by
  rcases h.2 with ⟨rfl, h0⟩ | ⟨g, c, cur, rfl, h1, h2, h3, h4, h5, h6⟩
  · exact ⟨none, 0, by rw [h0], by omega, Nat.zero_le _, fun i hi => by omega⟩
  · refine ⟨_, c, rfl, h3, h4, fun i hi => ⟨g, rfl, ?_⟩⟩
    obtain ⟨a, b⟩ := flatT_at hi
    have a1 := World.ownsRow.cells h rfl _ _ a
    have b1 := World.ownsRow.cells h rfl _ _ b
    rw [add0] at a1 b1
    exact ⟨a1, b1⟩
end Go.Proofs.Ytkgecljoodofeaa

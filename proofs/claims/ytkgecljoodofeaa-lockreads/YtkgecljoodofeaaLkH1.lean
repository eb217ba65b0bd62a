/- lock: what the laws want of a table that they hold; the law's elder. Own lemmas, no statement. -/
import Derived.Test.YtkgecljoodofeaaLkT
import Derived.Test.YtkgecljoodofeaaLkG1
set_option linter.unusedSimpArgs false
set_option linter.unusedVariables false
namespace Go.Proofs.Ytkgecljoodofeaa
open Go.ChangeShapes Go.WideShapes Go.ChangeAt Go.RowKit

section
variable {B g n : Nat} {w0 w w' : World} {S : Say} {T T' : Tab}
theorem StepT.ext (hs : StepT w T w' T') (h : Ext w0 w) (hB : w0.heap.size ≤ B) (ht : TT B w g n S T) : Ext w0 w' := by
  have h1 := ht.ge (.inl rfl)
  exact Below.trans h (Below.mono (Chg.below hs.chg (by omega) (fun i hi => (ht.ge hi).1)) hB)
/-- Blocks of other types stay. -/
theorem StepT.box (hs : StepT w T w' T') (ht : TT B w g n S T) {b : Nat} {c : Array Value} {Y : TypeId} (hb : Blk w b c Y) (h1 : Y ≠ 65) (h2 : Y ≠ 55) : Blk w' b c Y := hb.chg hs.chg (ht.tab.notFT hb h1 h2)
/-- Blocks ahead of the table stay. -/
theorem StepT.low (hs : StepT w T w' T') (ht : TT B w g n S T) {b : Nat} (hb : b < B) : w'.heap[b]? = w.heap[b]? := by
  have h1 := ht.ge (.inl rfl)
  exact hs.chg.block b (by omega) fun e => by have := (ht.ge e).1; omega
theorem TT.base (ht : TT B w g n S T) : B ≤ w.heap.size := by have h1 := ht.ge (.inl rfl); omega
end
theorem askM_has (S : Say) (t : Td) (m : Int) (k : ByteArray) (hm : m = 1 ∨ m = 2) : (S.askM t m k).has k = (askL t m (S.has k) (S.waits k)).has := by unfold Say.askM; rw [if_pos hm, say_has]
theorem askM_waits (S : Say) (t : Td) (m : Int) (k : ByteArray) (hm : m = 1 ∨ m = 2) : (S.askM t m k).waits k = (askL t m (S.has k) (S.waits k)).waits := by unfold Say.askM; rw [if_pos hm, say_waits]
theorem ansM_is (t : Td) (m : Int) (S : Say) (k : ByteArray) (hm : m = 1 ∨ m = 2) : ansM t m S k = (askL t m (S.has k) (S.waits k)).ans := by unfold ansM; rw [if_pos hm]
theorem eldT_ne {a b : Td} (h : eldT a b = true) : a ≠ b := fun e => by subst e; rw [eldT_irr] at h; cases h
set_option maxRecDepth 100000 in
set_option maxHeartbeats 1000000 in
theorem elder12_any (a b : Td) (w : World) : Calls Try.prog 23 #[.agg #[.int .u64 a.num, .int .i64 a.node], .agg #[.int .u64 b.num, .int .i64 b.node]] w fun e w' => e = .returned (.bool (eldT a b)) ∧ Ext w w' := by
  obtain ⟨x, y⟩ := a
  obtain ⟨u, v⟩ := b
  simp only
  have HE : Hid (Ext w ((w.alloc (.cells #[.int .u64 x, .int .i64 y] 29)).alloc (.cells #[.int .u64 u, .int .i64 v] 29))) := ext_two _ _
  by_cases h1 : x < u
  · have HA : Hid (eldT ⟨x, y⟩ ⟨u, v⟩ = true) := eldT_iff.2 (.inl h1)
    have h2 : decide (x < u) = true := decide_eq_true h1
    go_enter Try.func23, Try.ntmps23
    go_wp2
    go_ret
    exact ⟨by rw [HA.out]; rfl, HE.out⟩
  · have h2 : decide (x < u) = false := decide_eq_false h1
    by_cases h3 : x = u
    · subst h3
      by_cases h4 : y < v
      · have HA : Hid (eldT ⟨x, y⟩ ⟨x, v⟩ = true) := eldT_iff.2 (.inr ⟨rfl, h4⟩)
        have h5 : decide (y < v) = true := decide_eq_true h4
        have h6 : (x == x) = true := beq_self_eq_true x
        clear h1
        go_enter Try.func23, Try.ntmps23
        go_wp2
        go_ret
        exact ⟨by rw [HA.out]; rfl, HE.out⟩
      · have HA : Hid (eldT ⟨x, y⟩ ⟨x, v⟩ = false) := eldT_no.2 (fun e => by rcases e with e | e; exact h1 e; exact h4 e.2)
        have h5 : decide (y < v) = false := decide_eq_false h4
        have h6 : (x == x) = true := beq_self_eq_true x
        clear h1
        go_enter Try.func23, Try.ntmps23
        go_wp2
        go_ret
        exact ⟨by rw [HA.out]; rfl, HE.out⟩
    · have HA : Hid (eldT ⟨x, y⟩ ⟨u, v⟩ = false) := eldT_no.2 (fun e => by rcases e with e | e; exact h1 e; exact h3 e.1)
      have h6 : (x == u) = false := beq_eq_false_iff_ne.2 h3
      clear h1 h3
      go_enter Try.func23, Try.ntmps23
      go_wp2
      go_ret
      exact ⟨by rw [HA.out]; rfl, HE.out⟩
end Go.Proofs.Ytkgecljoodofeaa

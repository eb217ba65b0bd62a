/- Which of two transactions is elder: what the Go text of api's Elder comes to. Own lemmas, no statement. -/
import Derived.Test.YtkgecljoodofeaaBase
import Derived.Test.YtkgecljoodofeaaHash
import Derived.Outline
namespace Go.Proofs.Ytkgecljoodofeaa
open Go.ChangeShapes Go.WideShapes Go.ChangeAt Go.RowKit

def elderB (x y x' y' : Int) : Bool := decide (x < x' ∨ x = x' ∧ y < y')

set_option maxHeartbeats 400000 in
theorem elder_any (x y x' y' : Int) (w : World) :
    Calls Try.prog 45 #[.agg #[.int .u64 x, .int .i64 y], .agg #[.int .u64 x', .int .i64 y']] w fun e w' => e = .returned (.bool (elderB x y x' y')) ∧ Below w.heap.size w w' := by
  rcases (show x < x' ∨ (x = x' ∧ y < y') ∨ (x = x' ∧ ¬ y < y') ∨ (¬ x < x' ∧ ¬ x = x') by omega) with h | ⟨h, h'⟩ | ⟨h, h'⟩ | ⟨h, h'⟩
  · have he : elderB x y x' y' = true := by simp [elderB, h]
    rw [he]
    clear he
    go_enter Try.func45, Try.ntmps45
    go_wp2
    go_ret
    exact ⟨rfl, ((Below.refl _ _).alloc (Nat.le_refl _) _).alloc (by simp) _⟩
  · subst h
    have he : elderB x y x y' = true := by simp [elderB, h']
    rw [he]
    clear he
    go_enter Try.func45, Try.ntmps45
    go_wp2
    go_ret
    exact ⟨rfl, ((Below.refl _ _).alloc (Nat.le_refl _) _).alloc (by simp) _⟩
  · subst h
    have he : elderB x y x y' = false := by simp [elderB]; omega
    rw [he]
    clear he
    have hd : decide (y < y') = false := by simp; omega
    go_enter Try.func45, Try.ntmps45
    go_wp2
    go_ret
    exact ⟨rfl, ((Below.refl _ _).alloc (Nat.le_refl _) _).alloc (by simp) _⟩
  · have he : elderB x y x' y' = false := by simp [elderB]; omega
    rw [he]
    clear he
    have hd : (x == x') = false := by simp; omega
    go_enter Try.func45, Try.ntmps45
    go_wp2
    go_ret
    exact ⟨rfl, ((Below.refl _ _).alloc (Nat.le_refl _) _).alloc (by simp) _⟩
end Go.Proofs.Ytkgecljoodofeaa

/- Which of two entries comes first: what the Go texts of Elder and ahead come to. Own lemmas, no statement. -/
import Derived.Test.YtgoejoiomjmfaaaHeap
import Derived.Test.YtgoejoiomjmfaaaBlk
import Derived.Outline
namespace Go.Proofs.Ytgoejoiomjmfaaa
open Go.ChangeShapes Go.WideShapes Go.ChangeAt Go.RowKit

def elderB (x y x' y' : Int) : Bool := decide (x < x' ∨ x = x' ∧ y < y')

set_option maxHeartbeats 400000 in
theorem elder_any (x y x' y' : Int) (w : World) :
    Calls Try.prog 38 #[.agg #[.int .u64 x, .int .i64 y], .agg #[.int .u64 x', .int .i64 y']] w fun e w' => e = .returned (.bool (elderB x y x' y')) ∧ Below w.heap.size w w' := by
  rcases (show x < x' ∨ (x = x' ∧ y < y') ∨ (x = x' ∧ ¬ y < y') ∨ (¬ x < x' ∧ ¬ x = x') by omega) with h | ⟨h, h'⟩ | ⟨h, h'⟩ | ⟨h, h'⟩
  · have he : elderB x y x' y' = true := by simp [elderB, h]
    rw [he]
    clear he
    go_enter Try.func38, Try.ntmps38
    go_wp2
    go_ret
    exact ⟨rfl, ((Below.refl _ _).alloc (Nat.le_refl _) _).alloc (by simp) _⟩
  · subst h
    have he : elderB x y x y' = true := by simp [elderB, h']
    rw [he]
    clear he
    go_enter Try.func38, Try.ntmps38
    go_wp2
    go_ret
    exact ⟨rfl, ((Below.refl _ _).alloc (Nat.le_refl _) _).alloc (by simp) _⟩
  · subst h
    have he : elderB x y x y' = false := by simp [elderB]; omega
    rw [he]
    clear he
    have hd : decide (y < y') = false := by simp; omega
    go_enter Try.func38, Try.ntmps38
    go_wp2
    go_ret
    exact ⟨rfl, ((Below.refl _ _).alloc (Nat.le_refl _) _).alloc (by simp) _⟩
  · have he : elderB x y x' y' = false := by simp [elderB]; omega
    rw [he]
    clear he
    have hd : (x == x') = false := by simp; omega
    go_enter Try.func38, Try.ntmps38
    go_wp2
    go_ret
    exact ⟨rfl, ((Below.refl _ _).alloc (Nat.le_refl _) _).alloc (by simp) _⟩

/-- An entry by value. -/
def entV (e : Ent) : Value := .agg #[.int .i64 e.at_, .int .i64 e.kind, .int .u64 e.num, .int .i64 e.node]

set_option maxHeartbeats 800000 in
theorem ahead_any (e o : Ent) (w : World) :
    Calls Try.prog 39 #[entV e, entV o] w fun x w' => x = .returned (.bool (lessE e o)) ∧ Below w.heap.size w w' := by
  obtain ⟨a1, k1, x1, y1⟩ := e
  obtain ⟨a2, k2, x2, y2⟩ := o
  unfold entV
  simp only
  by_cases ha : a1 = a2
  · subst ha
    by_cases hk : k1 = k2
    · subst hk
      have he : lessE ⟨a1, k1, x1, y1⟩ ⟨a1, k1, x2, y2⟩ = elderB x1 y1 x2 y2 := by simp [lessE, elderB]
      rw [he]
      clear he
      go_enter Try.func39, Try.ntmps39
      go_wp2_with fail
      refine (elder_any _ _ _ _ _).mono ?_
      rintro x w2 ⟨rfl, hb⟩
      go_wp2_with fail
      go_ret
      refine ⟨rfl, (((Below.refl _ _).alloc (Nat.le_refl _) _).alloc (by simp) _).trans (Below.mono hb (by simp; omega))⟩
    · have he : lessE ⟨a1, k1, x1, y1⟩ ⟨a1, k2, x2, y2⟩ = decide (k1 < k2) := by simp [lessE, hk]
      rw [he]
      clear he
      have hd : (k1 == k2) = false := by simp [hk]
      go_enter Try.func39, Try.ntmps39
      go_wp2
      go_ret
      exact ⟨rfl, ((Below.refl _ _).alloc (Nat.le_refl _) _).alloc (by simp) _⟩
  · have he : lessE ⟨a1, k1, x1, y1⟩ ⟨a2, k2, x2, y2⟩ = decide (a1 < a2) := by simp [lessE, ha]
    rw [he]
    clear he
    have hd : (a1 == a2) = false := by simp [ha]
    go_enter Try.func39, Try.ntmps39
    go_wp2
    go_ret
    exact ⟨rfl, ((Below.refl _ _).alloc (Nat.le_refl _) _).alloc (by simp) _⟩
end Go.Proofs.Ytgoejoiomjmfaaa

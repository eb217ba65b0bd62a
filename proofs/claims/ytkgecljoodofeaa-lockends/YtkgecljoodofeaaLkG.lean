/- lock: judge. Own lemmas, no statement. -/
import Derived.Test.YtkgecljoodofeaaLkF
set_option linter.unusedSimpArgs false
set_option linter.unusedVariables false
namespace Go.Proofs.Ytkgecljoodofeaa
open Go.ChangeShapes Go.WideShapes Go.ChangeAt Go.RowKit

theorem sliceW_to (uk : Option Addr) (km kc i : Nat) (h1 : i ≤ km) (h2 : km ≤ kc) (hn : uk = none → kc = 0) (W : World) : (Instr.slice 35 (.slice uk km kc) none (some (.int .i64 (i : Int))) none).run Try.prog W = .ok (.slice uk i kc) W := by
  cases uk with
  | none =>
    have := hn rfl
    subst this
    have : km = 0 := by omega
    subst this
    have : i = 0 := by omega
    subst this
    go_simp
  | some ad =>
    have a1 : (i : Int) ≤ (kc : Int) := by omega
    go_simp
theorem sliceW_from (uk : Option Addr) (km kc i : Nat) (h1 : i ≤ km) (h2 : km ≤ kc) (hn : uk = none → kc = 0) (W : World) : (Instr.slice 35 (.slice uk km kc) (some (.int .i64 (i : Int))) none none).run Try.prog W = .ok (.slice (if kc = i then uk else uk.map (·.add (i * 3))) (km - i) (kc - i)) W := by
  cases uk with
  | none =>
    have := hn rfl
    subst this
    have : km = 0 := by omega
    subst this
    have : i = 0 := by omega
    subst this
    go_simp
  | some ad =>
    have a1 : (i : Int) ≤ (kc : Int) := by omega
    go_simp
theorem add_addW (ad : Addr) (i k : Nat) : (ad.add (i * 3)).add (k * 3) = ad.add ((i + k) * 3) := by
  unfold Addr.add
  by_cases h1 : i * 3 = 0
  · have : i = 0 := by omega
    subst this
    simp
  · by_cases h2 : k * 3 = 0
    · have : k = 0 := by omega
      subst this
      simp [h1]
    · rw [if_neg h1, if_neg h2, if_neg (by omega)]
      simp [Nat.add_assoc, Nat.add_mul]
theorem RowAt.to {w : World} {ao : Option Addr} {ls : List Wn} (h : RowAt w ao ls) (i : Nat) : RowAt w ao (ls.take i) :=
  ⟨fun e => by have := h.1 e; rw [List.length_take]; omega, fun ad e k hk => by
    have hk2 : k < ls.length := by rw [List.length_take] at hk; omega
    have := h.2 ad e k hk2
    rw [List.getElem_take]
    exact this⟩
theorem RowAt.from_ {w : World} {ao : Option Addr} {ls : List Wn} (h : RowAt w ao ls) (i c : Nat) (hc : ls.length ≤ c) (hi : i ≤ ls.length) : RowAt w (if c = i then ao else ao.map (·.add (i * 3))) (ls.drop i) := by
  by_cases hci : c = i
  · have : ls.drop i = [] := List.drop_eq_nil_of_le (by omega)
    rw [if_pos hci, this]
    exact ⟨fun _ => rfl, fun ad e k hk => by simp at hk⟩
  · rw [if_neg hci]
    refine ⟨fun e => ?_, fun ad e k hk => ?_⟩
    · have := h.1 (by cases ao with | none => rfl | some a => cases e)
      rw [List.length_drop]; omega
    · cases ao with
      | none => cases e
      | some a =>
        simp only [Option.map_some, Option.some.injEq] at e
        subst e
        have hk2 : i + k < ls.length := by rw [List.length_drop] at hk; omega
        rw [add_addW, List.getElem_drop]
        exact h.2 a rfl (i + k) hk2

def bad1 (x o : Wn) : Bool := agB x o && !eldT o.t x.t
def bad2 (x o : Wn) : Bool := agB x o && !eldT x.t o.t
def ansN (x : Wn) (l : List Wn) : Int := if l.any (agB x) then 2 else 1
/-- What becomes of a wish. -/
def judgeN (has ls : List Wn) (x : Wn) (i : Nat) : Int := if (ls.drop i).any (bad1 x) then 3 else if (has ++ ls.take i).any (bad2 x) then 3 else ansN x (has ++ ls.take i)
theorem any_false {α : Type} {p : α → Bool} {l : List α} (h : ∀ j (hj : j < l.length), p l[j] = false) : l.any p = false := List.any_eq_false.2 fun x hx => by
  obtain ⟨j, hj, rfl⟩ := List.getElem_of_mem hx
  rw [h j hj]; decide
theorem any_true {α : Type} {p : α → Bool} {l : List α} {j : Nat} (hj : j < l.length) (h : p l[j] = true) : l.any p = true := List.any_eq_true.2 ⟨_, List.getElem_mem _, h⟩
theorem exec_buildR {ρ : Operand → Value} {o : Oper} {w : World} {x y : Operand} {a b : Option Addr} {n c m d : Nat} (ho : o.op = .buildSlice 102 2 #[(0, x), (1, y)]) (hx : ρ x = .slice a n c) (hy : ρ y = .slice b m d) : (execOp ρ o).run Try.prog w = .ok (.value (.slice (some ⟨w.heap.size, 0, none⟩) 2 2)) (w.alloc (.cells #[.slice a n c, .slice b m d] 35)) := by
  unfold execOp
  rw [ho]
  go_simp
theorem ansN_take {x : Wn} {l : List Wn} {i : Nat} (hi : i < l.length) : ansN x (l.take (i + 1)) = if agB x l[i] then 2 else ansN x (l.take i) := by
  unfold ansN
  have h1 : [l[i]].any (agB x) = agB x l[i] := by simp
  rw [List.take_succ_eq_append_getElem hi, List.any_append, h1]
  cases agB x l[i]
  · rw [Bool.or_false]; rfl
  · rw [Bool.or_true]; rfl
end Go.Proofs.Ytkgecljoodofeaa

/- NetTwice: the walk of the law's Go text. Own lemmas, no statement. -/
import Derived.Test.YtcemecclpofhbaaWNetOrder
set_option linter.unusedSimpArgs false
set_option linter.unusedVariables false
namespace Go.Proofs.Ytcemecclpofhbaa
open Go.ChangeShapes Go.WideShapes Go.ChangeAt Go.RowKit

theorem NetI.after {W0 W W' : World} {B p : Nat} {v : Value} {ls : List LetV} (h : NetI W0 B p v ls) (hc : Chg (fun i => i = p ∨ v.ownBlock = some i) W W') (g : Nat) (h1 : W0.heap.size ≤ g) (h2 : g < W.heap.size) : W'.heap[g]? = W.heap[g]? :=
  hc.block g h2 (fun e => by
    rcases e with e | e
    · have := h.blk.lt; omega
    · have := (h.own.lt g e).2; omega)
/-- What Spoil does to a letter that is there. -/
theorem spoil_in {B p : Nat} {v : Value} {ls : List LetV} {k j : Nat} {x : LetV} {ob bt : UInt8} {w : World} {e : Ending} {w' : World} (h : SpoilP B p v ls (k : Int) (j : Int) bt w e w') (hx : ls[k]? = some x) (hj : x.bs[j]? = some ob) :
    e = .returned (.int .i64 0) ∧ NetI w' B p v (ls.set k { x with bs := x.bs.set j (ob ^^^ bt) }) ∧ Chg (fun b => x.v.ownBlock = some b) w w' := by
  rcases h with ⟨h, _⟩ | ⟨x', k', j', ob', h1, h2, h3, h4, h5, h6, h7⟩
  · exact absurd ⟨x, k, j, rfl, hx, rfl, (List.getElem?_eq_some_iff.1 hj).1⟩ h
  · have e1 : k = k' := by omega
    have e2 : j = j' := by omega
    subst e1
    subst e2
    rw [hx] at h2
    cases h2
    rw [hj] at h4
    cases h4
    exact ⟨h5, h6, h7⟩
theorem spoil_out {B p : Nat} {v : Value} {ls : List LetV} {k : Nat} {i : Int} {x : LetV} {bt : UInt8} {w : World} {e : Ending} {w' : World} (h : SpoilP B p v ls (k : Int) i bt w e w') (hx : ls[k]? = some x) (hi : i < 0 ∨ (x.bs.length : Int) ≤ i) :
    e = .returned (.int .i64 4) ∧ w' = w := by
  rcases h with ⟨_, h⟩ | ⟨x', k', j', ob', h1, h2, h3, h4, _⟩
  · exact h
  · have e1 : k = k' := by omega
    subst e1
    rw [hx] at h2
    cases h2
    have := (List.getElem?_eq_some_iff.1 h4).1
    omega
end Go.Proofs.Ytcemecclpofhbaa

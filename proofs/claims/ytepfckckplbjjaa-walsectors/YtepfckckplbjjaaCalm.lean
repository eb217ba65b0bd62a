/- A region that draws its order, whose operations read and whose calls make new memory alone: one walk, in the order of the text, in a class of worlds. Own lemmas, no statement. -/
import Derived.Test.YtepfckckplbjjaaRows
import Derived.WalkKit
import Derived.BigQuiet
namespace Go.Proofs.Ytepfckckplbjjaa
open Go.RowKit

/-- A world in which 'inv' holds. -/
structure Cls (inv : World → Prop) where
  wd : World
  ok : inv wd

theorem wp_region_inv {P : Program} {id : Nat} {Q : Exit → Act → World → Prop} {a : Act} {w : World} {l : List Oper} (inv : World → Prop) (hm : P.follows .mixedOrders = true) (hB : Region.lexB .any l.toArray = true) (hi : inv w.drew)
    (h : wpQuiet P l.toArray (fun w' => ∃ s : Cls inv, w' = s.wd) (fun a' => ∀ w', (∃ s : Cls inv, w' = s.wd) → Q .normal a' w') l a) : (Code.region id l.toArray true).wp P Q a w :=
  wp_region_quiet (C := fun w' => ∃ s : Cls inv, w' = s.wd) hm hB ⟨⟨w.drew, hi⟩, rfl⟩ (by simpa using h)

/-- A call that keeps 'inv'. -/
theorem Calls.calm {P : Program} {f : FuncId} {args : Array Value} {w : World} {inv : World → Prop} {v : Value} {R : World → Prop}
    (h : Calls P f args w fun e w' => e = .returned v ∧ R w') (hR : ∀ w', R w' → inv w') : Calls P f args w fun e w'' => e = .returned v ∧ ∃ s : Cls inv, w'' = s.wd :=
  h.mono fun _ w' ⟨he, hr⟩ => ⟨he, ⟨w', hR w' hr⟩, rfl⟩
end Go.Proofs.Ytepfckckplbjjaa

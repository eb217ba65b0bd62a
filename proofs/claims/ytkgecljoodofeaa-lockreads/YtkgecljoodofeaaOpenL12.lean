/- What the walks are told of lock's operations that came in. Own lemmas, no statement. -/
import Derived.Test.YtkgecljoodofeaaLkH1
import Derived.Deep.Grids
import Derived.WalkKit
import Derived.WalkLawsBesides
import Derived.ProofKit
import Derived.OpenShut
set_option linter.unusedSimpArgs false
set_option linter.unusedVariables false
namespace Go.Proofs.Ytkgecljoodofeaa
open Go.ChangeShapes Go.WideShapes Go.ChangeAt Go.RowKit

/-- An operation. -/
structure OpL where
  k : Int
  num : Int
  node : Int
  key : ByteArray
  mode : Int
def OpL.t (o : OpL) : Td := ⟨o.num, o.node⟩
def OpL.cs (o : OpL) : Array Value := #[.int .i64 o.k, .int .u64 o.num, .int .i64 o.node, .string o.key, .int .i64 o.mode]
def OpL.Wf (o : OpL) : Prop := o.t.wf ∧ o.key.size ≤ maxLen
/-- An operation lies at an address. -/
structure OpLAt (w : World) (x : Addr) (i : Nat) (o : OpL) : Prop where
  c0 : w.cell? (x.add (i * 5)) = some (.int .i64 o.k)
  c1 : w.cell? (x.add (i * 5 + 1)) = some (.int .u64 o.num)
  c2 : w.cell? (x.add (i * 5 + 2)) = some (.int .i64 o.node)
  c3 : w.cell? (x.add (i * 5 + 3)) = some (.string o.key)
  c4 : w.cell? (x.add (i * 5 + 4)) = some (.int .i64 o.mode)
  wf : o.Wf
theorem cell_on {w : World} {a : Addr} {i j : Nat} {v : Value} (hj : 0 < j) (h : w.cell? (a.add (i + j)) = some v) : w.cell? ⟨(a.add i).block, (a.add i).off + j, none⟩ = some v := by
  unfold Addr.add at h ⊢
  rw [if_neg (by omega)] at h
  split
  · rename_i h0; subst h0; simpa using h
  · simpa [Nat.add_assoc] using h
theorem OpLAt.below {w w' : World} {x : Addr} {i : Nat} {o : OpL} (h : OpLAt w x i o) (hb : Ext w w') : OpLAt w' x i o :=
  ⟨(Below.cell hb (cell_lt h.c0)).trans h.c0, (Below.cell hb (cell_lt h.c1)).trans h.c1, (Below.cell hb (cell_lt h.c2)).trans h.c2, (Below.cell hb (cell_lt h.c3)).trans h.c3, (Below.cell hb (cell_lt h.c4)).trans h.c4, h.wf⟩
section
variable {H : Type} {enc : TypeId × Value → H} {W : World}
end
end Go.Proofs.Ytkgecljoodofeaa

/- What the walks are told of rows of rows of bytes that came in. Own lemmas, no statement. -/
import Derived.Test.YtcemecclpofhbaaBase
import Derived.Test.YtcemecclpofhbaaSrcSeg
import Derived.Deep.SlicePairs
set_option linter.unusedSimpArgs false
set_option linter.unusedVariables false
namespace Go.Proofs.Ytcemecclpofhbaa
open Go.ChangeShapes Go.WideShapes Go.ChangeAt Go.RowKit

/-- Bytes as they lie in a row. -/
structure BsV where
  a : Option Addr
  n : Nat
  c : Nat
  bs : List UInt8
def BsV.v (x : BsV) : Value := .slice x.a x.n x.c
/-- A row of rows of bytes that can be read. -/
def IsBss (W : World) (a : Option Addr) (len cap : Nat) (l : List BsV) : Prop :=
  l.length = len ∧ len ≤ cap ∧ cap ≤ maxLen ∧ (a = none → l = []) ∧ (∀ x ∈ l, Src W x.v x.bs) ∧ ∀ ad, a = some ad → ∀ i x, l[i]? = some x → W.cell? (ad.add i) = some (.slice x.a x.n x.c)
theorem IsBss.below {W W' : World} {a : Option Addr} {len cap : Nat} {l : List BsV} (h : IsBss W a len cap l) (hb : Below W.heap.size W W') : IsBss W' a len cap l := by
  obtain ⟨h1, h2, h3, h4, h5, h6⟩ := h
  exact ⟨h1, h2, h3, h4, fun x hx => (h5 x hx).below hb, fun ad had i x hx => (Below.cell hb (World.block_lt_of_cell? _ _ (h6 ad had i x hx))).trans (h6 ad had i x hx)⟩
section
variable {H : Type} {enc : TypeId × Value → H} {W : World}
set_option maxHeartbeats 1000000 in
theorem bytes_of_trod {fuel : Nat} {cs : List Value} {y : DataW H × List MemPlace} (hl : cs.length = 1) (h : DataW.trod enc Try.prog W 0 (fun _ => true) true fuel 28 cs = some y) : ∃ x : BsV, cs = [x.v] ∧ Src W x.v x.bs := by
  match cs, hl with
  | [v], _ =>
    rcases Deep.open_slice Try.underlying28 h with ⟨hcs, _⟩ | ⟨a, len, cap, m, n, D, Pl, hcs, _⟩
    · simp at hcs
      subst hcs
      exact ⟨⟨none, 0, 0, []⟩, rfl, Src.nil W⟩
    · simp at hcs
      subst hcs
      obtain ⟨zs, hz⟩ : ∃ zs, IsRow .u8 W (some a) len cap zs := isRow_of (d := y.1) (p := y.2) Try.underlying28 Try.underlying5 (by kernel_rfl) ⟨fuel, by simpa [Value.cells] using h⟩
      obtain ⟨l, hs, hlen⟩ := isRow_src hz
      exact ⟨⟨some a, len, cap, l⟩, rfl, hs⟩
end
end Go.Proofs.Ytcemecclpofhbaa

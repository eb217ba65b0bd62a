/- What the walks are told of arguments that came in: pairs, slices of texts, of pairs, of transactions. Own lemmas, no statement. -/
import Derived.Test.YtkgecljoodofeaaBase
import Derived.Deep.SlicePairs
import Derived.Deep.Strs
import Derived.SizedLaws
namespace Go.Proofs.Ytkgecljoodofeaa
open Go.ChangeShapes Go.WideShapes Go.ChangeAt Go.RowKit

/-- A slice of transactions that came in. -/
def IsTids (w : World) (a : Option Addr) (len : Nat) (ss : List (Int × Int)) : Prop :=
  ss.length = len ∧ len ≤ maxLen ∧ (a = none → len = 0) ∧ ∀ x, a = some x → ∀ i (h : i < ss.length), w.cell? (x.add (i * 2)) = some (.int .u64 ss[i].1) ∧ w.cell? (x.add (i * 2 + 1)) = some (.int .i64 ss[i].2) ∧ (Lit.int .u64 ss[i].1).wf = true ∧ (Lit.int .i64 ss[i].2).wf = true

theorem isTids_of {H : Type} {enc : TypeId × Value → H} {P : Program} {W : World} {t e : TypeId} {f0 f1 : Field} {a : Option Addr} {len cap : Nat} {d : DataW H} {p : List MemPlace}
    (ht : P.underlying t = some (.slice e)) (he : P.underlying e = some (.struct #[f0, f1])) (ce : P.cellsOf e = 2) (o0 : f0.offset = 0) (o1 : f1.offset = 1) (c0 : P.cellsOf f0.type = 1) (c1 : P.cellsOf f1.type = 1)
    (h0 : P.underlying f0.type = some (.int .u64)) (h1 : P.underlying f1.type = some (.int .i64))
    (h : DataW.Trod enc P W 0 (fun _ => true) true t (.slice a len cap) d p) : ∃ ss, IsTids W a len ss := by
  obtain ⟨fuel, hf⟩ := h
  rcases Deep.open_slice_pairs ht he ce o0 o1 c0 c1 hf with ⟨hcs, _⟩ | ⟨x, l, c, m, n, V0, V1, D0, D1, P0, P1, hcs, _, hl, hm, hmm, _, hcell⟩
  · simp [Value.cells] at hcs
    obtain ⟨rfl, rfl, rfl⟩ := hcs
    exact ⟨[], rfl, Nat.zero_le _, fun _ => rfl, fun x h => by cases h⟩
  · simp [Value.cells] at hcs
    obtain ⟨rfl, rfl, rfl⟩ := hcs
    have hmc : m = cap := by rw [hmm]; simp
    subst hmc
    refine ⟨(List.range len).map fun i => ((match V0 i with | .int _ s => s | _ => 0), (match V1 i with | .int _ s => s | _ => 0)), by simp, by omega, fun h => (by cases h), fun y hy i hi => ?_⟩
    cases hy
    simp at hi
    obtain ⟨k0, k1, t0, t1⟩ := hcell i (by omega)
    obtain ⟨s0, e0, _, w0⟩ := DataW.trod_int h0 t0
    obtain ⟨s1, e1, _, w1⟩ := DataW.trod_int h1 t1
    simp at e0 e1
    rw [e0] at k0
    rw [e1] at k1
    simp only [List.getElem_map, List.getElem_range, e0, e1]
    exact ⟨k0, k1, w0, w1⟩
end Go.Proofs.Ytkgecljoodofeaa

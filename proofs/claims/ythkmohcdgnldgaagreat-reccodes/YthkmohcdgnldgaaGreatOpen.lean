/- What the walks are told of arguments that came in: pairs, slices of texts, of pairs, of transactions. Own lemmas, no statement. -/
import Derived.Test.YthkmohcdgnldgaaGreatBase
import Derived.Deep.SlicePairs
import Derived.Deep.Strs
import Derived.SizedLaws
namespace Go.Proofs.YthkmohcdgnldgaaGreat
open Go.ChangeShapes Go.WideShapes Go.ChangeAt Go.RowKit

theorem isPair_of {H : Type} {enc : TypeId × Value → H} {P : Program} {W : World} {t : TypeId} {f0 f1 : Field} {r : Reach} {b0 : Nat} {v : Value} {d : DataW H} {p : List MemPlace}
    (hs : P.underlying t = some (.struct #[f0, f1])) (hone : Deep.oneCellFields P #[f0, f1] = true) (hC : P.cellsOf t = 2)
    (h0 : P.underlying f0.type = some .string) (h1 : P.underlying f1.type = some .string)
    (hv : Value.okWide P W r b0 t v) (h : DataW.Trod enc P W 0 (fun _ => true) true t v d p) :
    ∃ x y : ByteArray, v = .agg #[.string x, .string y] ∧ x.size ≤ maxLen ∧ y.size ≤ maxLen := by
  obtain ⟨c0, c1, y0, y1, n, rfl, rfl, rfl, hy0, hy1⟩ := Joins.open_agg2 hs hone hC hv h
  obtain ⟨x, e0, _, wx⟩ := DataW.trod_string h0 hy0
  obtain ⟨y, e1, _, wy⟩ := DataW.trod_string h1 hy1
  simp at e0 e1
  subst e0 e1
  exact ⟨x, y, rfl, wx, wy⟩

/-- A slice of texts that came in. -/
def IsStrs (w : World) (a : Option Addr) (len cap : Nat) (ss : List ByteArray) : Prop :=
  ss.length = len ∧ len ≤ cap ∧ cap ≤ maxLen ∧ (a = none → len = 0 ∧ cap = 0) ∧ ∀ x, a = some x → ∀ i (h : i < ss.length), w.cell? (x.add i) = some (.string ss[i]) ∧ ss[i].size ≤ maxLen

theorem isStrs_of {H : Type} {enc : TypeId × Value → H} {P : Program} {W : World} {t e : TypeId} {a : Option Addr} {len cap : Nat} {d : DataW H} {p : List MemPlace}
    (ht : P.underlying t = some (.slice e)) (he : P.underlying e = some .string) (hc : P.cellsOf e = 1)
    (h : DataW.Trod enc P W 0 (fun _ => true) true t (.slice a len cap) d p) : ∃ ss, IsStrs W a len cap ss := by
  obtain ⟨fuel, hf⟩ := h
  rcases Deep.open_strs ht he hc hf with ⟨hcs, _⟩ | ⟨x, l, c, m, S, hcs, _, hl, hm, hmm, _, hcell⟩
  · simp [Value.cells] at hcs
    obtain ⟨rfl, rfl, rfl⟩ := hcs
    exact ⟨[], rfl, Nat.le_refl _, Nat.zero_le _, fun _ => ⟨rfl, rfl⟩, fun x h => by cases h⟩
  · simp [Value.cells] at hcs
    obtain ⟨rfl, rfl, rfl⟩ := hcs
    refine ⟨(List.range len).map S, by simp, hl, hm, fun h => (by cases h), fun y hy i hi => ?_⟩
    cases hy
    simp at hi
    simp
    exact hcell i (by rw [hmm]; simp; omega)

theorem weightsAll_mem {H : Type} {P : Program} {e : TypeId} : ∀ {l : List (DataW H)} {d : DataW H} {n : Nat}, d ∈ l → n ∈ d.weights P e → n ∈ DataW.weightsAll P e l
  | [], _, _, h, _ => by cases h
  | d0 :: l, d, n, h, hn => by
    simp only [DataW.weightsAll, List.mem_append]
    rcases List.mem_cons.1 h with rfl | h
    · exact .inl hn
    · exact .inr (weightsAll_mem h hn)

/-- .. and none is longer than memory bears. -/
theorem isStrs_sized {H : Type} {enc : TypeId × Value → H} {P : Program} {W : World} {t e : TypeId} {a : Option Addr} {len cap : Nat} {d : DataW H} {p : List MemPlace} {ts : List TypeId} {ds : List (DataW H)} {j : Nat}
    (ht : P.underlying t = some (.slice e)) (he : P.underlying e = some .string) (hc : P.cellsOf e = 1)
    (h : DataW.Trod enc P W 0 (fun _ => true) true t (.slice a len cap) d p) (hj : ts[j]? = some t) (hd : ds[j]? = some d) (hsz : (DataW.weightsEach P ts ds).all (· ≤ reachBytes) = true) :
    ∃ ss, IsStrs W a len cap ss ∧ ∀ k ∈ ss, k.size ≤ 140737488351232 := by
  obtain ⟨fuel, hf⟩ := h
  rcases Deep.open_strs ht he hc hf with ⟨hcs, _⟩ | ⟨x, l, c, m, S, hcs, _, hl, hm, hmm, hx, hcell⟩
  · simp [Value.cells] at hcs
    obtain ⟨rfl, rfl, rfl⟩ := hcs
    exact ⟨[], ⟨rfl, Nat.le_refl _, Nat.zero_le _, fun _ => ⟨rfl, rfl⟩, fun x h => by cases h⟩, fun k hk => by cases hk⟩
  · simp [Value.cells] at hcs
    obtain ⟨rfl, rfl, rfl⟩ := hcs
    refine ⟨(List.range len).map S, ⟨by simp, hl, hm, fun h => (by cases h), fun y hy i hi => ?_⟩, fun k hk => ?_⟩
    · cases hy
      simp at hi
      simp
      exact hcell i (by rw [hmm]; simp; omega)
    · obtain ⟨i, hi, rfl⟩ := List.mem_map.1 hk
      simp only [Prod.mk.injEq] at hx
      have hmem : (S i).data.toList.length ∈ d.weights P t := by
        rw [hx.1]
        simp only [DataW.weights, ht, List.mem_cons, List.mem_append]
        refine .inr (.inl (weightsAll_mem (d := .lit (.string (S i).data.toList)) (List.mem_map.2 ⟨i, hi, rfl⟩) ?_))
        simp [DataW.weights]
      have := List.all_eq_true.1 hsz _ (DataW.weights_mem_each hj hd _ hmem)
      simp only [decide_eq_true_eq] at this
      have h2 : (S i).data.toList.length = (S i).size := by rw [Array.length_toList]; rfl
      rw [h2] at this
      exact this

/-- A slice of pairs of texts that came in. -/
def IsPairs (w : World) (a : Option Addr) (len : Nat) (ss : List (ByteArray × ByteArray)) : Prop :=
  ss.length = len ∧ len ≤ maxLen ∧ (a = none → len = 0) ∧ ∀ x, a = some x → ∀ i (h : i < ss.length), w.cell? (x.add (i * 2)) = some (.string ss[i].1) ∧ w.cell? (x.add (i * 2 + 1)) = some (.string ss[i].2) ∧ ss[i].1.size ≤ maxLen ∧ ss[i].2.size ≤ maxLen

theorem isPairs_of {H : Type} {enc : TypeId × Value → H} {P : Program} {W : World} {t e : TypeId} {f0 f1 : Field} {a : Option Addr} {len cap : Nat} {d : DataW H} {p : List MemPlace}
    (ht : P.underlying t = some (.slice e)) (he : P.underlying e = some (.struct #[f0, f1])) (ce : P.cellsOf e = 2) (o0 : f0.offset = 0) (o1 : f1.offset = 1) (c0 : P.cellsOf f0.type = 1) (c1 : P.cellsOf f1.type = 1)
    (h0 : P.underlying f0.type = some .string) (h1 : P.underlying f1.type = some .string)
    (h : DataW.Trod enc P W 0 (fun _ => true) true t (.slice a len cap) d p) : ∃ ss, IsPairs W a len ss := by
  obtain ⟨fuel, hf⟩ := h
  rcases Deep.open_slice_pairs ht he ce o0 o1 c0 c1 hf with ⟨hcs, _⟩ | ⟨x, l, c, m, n, V0, V1, D0, D1, P0, P1, hcs, _, hl, hm, hmm, _, hcell⟩
  · simp [Value.cells] at hcs
    obtain ⟨rfl, rfl, rfl⟩ := hcs
    exact ⟨[], rfl, Nat.zero_le _, fun _ => rfl, fun x h => by cases h⟩
  · simp [Value.cells] at hcs
    obtain ⟨rfl, rfl, rfl⟩ := hcs
    have hmc : m = cap := by rw [hmm]; simp
    subst hmc
    refine ⟨(List.range len).map fun i => ((match V0 i with | .string s => s | _ => ByteArray.empty), (match V1 i with | .string s => s | _ => ByteArray.empty)), by simp, by omega, fun h => (by cases h), fun y hy i hi => ?_⟩
    cases hy
    simp at hi
    obtain ⟨k0, k1, t0, t1⟩ := hcell i (by omega)
    obtain ⟨s0, e0, _, w0⟩ := DataW.trod_string h0 t0
    obtain ⟨s1, e1, _, w1⟩ := DataW.trod_string h1 t1
    simp at e0 e1
    rw [e0] at k0
    rw [e1] at k1
    simp [e0, e1]
    exact ⟨k0, k1, w0, w1⟩

/-- A slice of transactions that came in. -/
def IsTids (w : World) (a : Option Addr) (len : Nat) (ss : List (Int × Int)) : Prop :=
  ss.length = len ∧ len ≤ maxLen ∧ (a = none → len = 0) ∧ ∀ x, a = some x → ∀ i (h : i < ss.length), w.cell? (x.add (i * 2)) = some (.int .u64 ss[i].1) ∧ w.cell? (x.add (i * 2 + 1)) = some (.int .i64 ss[i].2) ∧ (Lit.int .u64 ss[i].1).wf = true ∧ (Lit.int .i64 ss[i].2).wf = true

theorem isTids_of {H : Type} {enc : TypeId × Value → H} {P : Program} {W : World} {t e : TypeId} {f0 f1 : Field} {a : Option Addr} {len cap : Nat} {d : DataW H} {p : List MemPlace}
    (ht : P.underlying t = some (.slice e)) (he : P.underlying e = some (.struct #[f0, f1])) (ce : P.cellsOf e = 2) (o0 : f0.offset = 0) (o1 : f1.offset = 1) (c0 : P.cellsOf f0.type = 1) (c1 : P.cellsOf f1.type = 1)
    (h0 : P.underlying f0.type = some (.int .u64)) (h1 : P.underlying f1.type = some (.int .i64))
    (h : DataW.Trod enc P W 0 (fun _ => true) true t (.slice a len cap) d p) : ∃ ss, IsTids W a len ss := by
  obtain ⟨fuel, hf⟩ := h
  rcases Deep.open_slice_pairs ht he ce o0 o1 c0 c1 hf with ⟨hcs, _⟩ | ⟨x, l, c, m, n, V0, V1, D0, D1, P0, P1, hcs, _, hl, hm, hmm, _, hcell⟩
  · simp [Value.cells] at hcs
    obtain ⟨rfl, rfl, rfl⟩ := hcs
    exact ⟨[], rfl, Nat.zero_le _, fun _ => rfl, fun x h => by cases h⟩
  · simp [Value.cells] at hcs
    obtain ⟨rfl, rfl, rfl⟩ := hcs
    have hmc : m = cap := by rw [hmm]; simp
    subst hmc
    refine ⟨(List.range len).map fun i => ((match V0 i with | .int _ s => s | _ => 0), (match V1 i with | .int _ s => s | _ => 0)), by simp, by omega, fun h => (by cases h), fun y hy i hi => ?_⟩
    cases hy
    simp at hi
    obtain ⟨k0, k1, t0, t1⟩ := hcell i (by omega)
    obtain ⟨s0, e0, _, w0⟩ := DataW.trod_int h0 t0
    obtain ⟨s1, e1, _, w1⟩ := DataW.trod_int h1 t1
    simp at e0 e1
    rw [e0] at k0
    rw [e1] at k1
    simp only [List.getElem_map, List.getElem_range, e0, e1]
    exact ⟨k0, k1, w0, w1⟩
end Go.Proofs.YthkmohcdgnldgaaGreat

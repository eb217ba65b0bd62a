/- What the walks are told of a page that came in. Own lemmas, no statement. -/
import Derived.Test.YthkmohcdgnldgaaGreatPg2
namespace Go.Proofs.YthkmohcdgnldgaaGreat
open Go.ChangeShapes Go.WideShapes Go.ChangeAt Go.RowKit

theorem strs_of_trod {H : Type} {enc : TypeId × Value → H} {P : Program} {W : World} {t e : TypeId} {fuel : Nat} {v : Value} {x : DataW H × List MemPlace} {base : Nat}
    (ht : P.underlying t = some (.slice e)) (he : P.underlying e = some .string) (hc : P.cellsOf e = 1)
    (h : DataW.trod enc P W base (fun _ => true) true fuel t [v] = some x) : ∃ ss, Rd W v (sv ss) ∧ (∀ s ∈ ss, s.size ≤ maxLen) ∧ ∀ s ∈ ss, s.size ∈ x.1.weights P t := by
  rcases Deep.open_strs ht he hc h with ⟨hcs, _⟩ | ⟨a, l, c, m, S, hcs, _, hl, hm, hmm, hx, hcell⟩
  · simp at hcs
    subst hcs
    exact ⟨[], Rd.nil _, fun s hs => (by cases hs), fun s hs => by cases hs⟩
  · simp at hcs
    subst hcs
    have hlen : ((List.range l).map S).length = l := by simp
    refine ⟨(List.range l).map S, ⟨some a, c, by rw [sv_length, hlen], by rw [sv_length, hlen]; exact hl, hm, fun e => (by cases e), fun ad e j u hu => ?_⟩, fun s hs => ?_, fun s hs => ?_⟩
    · cases e
      have hj : j < l := by have := (List.getElem?_eq_some_iff.1 hu).1; rw [sv_length, hlen] at this; exact this
      rw [(hcell j (by rw [hmm]; simp; omega)).1, ← hu]
      simp [sv, hj]
    · obtain ⟨i, hi, rfl⟩ := List.mem_map.1 hs
      have hi' : i < l := by simpa using hi
      exact (hcell i (by rw [hmm]; simp; omega)).2
    · obtain ⟨i, hi, rfl⟩ := List.mem_map.1 hs
      rw [hx]
      simp only [DataW.weights, ht, List.mem_cons, List.mem_append]
      refine .inr (.inl (weightsAll_mem (d := .lit (.string (S i).data.toList)) (List.mem_map.2 ⟨i, hi, rfl⟩) ?_))
      have h2 : (S i).data.toList.length = (S i).size := by rw [Array.length_toList]; rfl
      simp [DataW.weights, h2]

theorem nums_of_trod {H : Type} {enc : TypeId × Value → H} {P : Program} {W : World} {t e : TypeId} {fuel : Nat} {v : Value} {x : DataW H × List MemPlace} {base : Nat}
    (ht : P.underlying t = some (.slice e)) (he : P.underlying e = some (.int .i64)) (hc : P.cellsOf e = 1)
    (h : DataW.trod enc P W base (fun _ => true) true fuel t [v] = some x) : ∃ ns, Rd W v (iv ns) ∧ ∀ n ∈ ns, -9223372036854775808 ≤ n ∧ n < 9223372036854775808 := by
  rcases open_ints ht he hc h with ⟨hcs, _⟩ | ⟨a, len, cap, zs, hcs, _, hl, hm, hz, _, hcell, hwz⟩
  · simp at hcs
    subst hcs
    exact ⟨[], Rd.nil _, fun s hs => by cases hs⟩
  · simp at hcs
    subst hcs
    have hz' : zs.length = cap := by simpa using hz
    have hlen : (zs.take len).length = len := by simp; omega
    refine ⟨zs.take len, ⟨some a, cap, by rw [iv_length, hlen], by rw [iv_length, hlen]; exact hl, hm, fun e => (by cases e), fun ad e j u hu => ?_⟩, fun n hn => ?_⟩
    · cases e
      have hj : j < len := by have := (List.getElem?_eq_some_iff.1 hu).1; rw [iv_length, hlen] at this; exact this
      rw [hcell j (by omega), ← hu]
      have hj2 : j < zs.length := by omega
      simp [iv, hj, hj2]
    · have := bounds_i64 (hwz n (List.mem_of_mem_take hn))
      omega

set_option maxRecDepth 100000 in
theorem page_of {H : Type} {enc : TypeId × Value → H} {W : World} {r : Reach} {b0 : Nat} {v : Value} {d : DataW H} {p : List MemPlace}
    (hv : Value.okWide Tryz.prog W r b0 47 v) (h : DataW.Trod enc Tryz.prog W 0 (fun _ => true) true 47 v d p) :
    ∃ (q : Pg) (kv vv dv : Value), v = pgv q kv vv dv ∧ PgAt W q kv vv dv ∧ q.Ok ∧ ∀ s ∈ q.keys, s.size ∈ d.weights Tryz.prog 47 := by
  have hs := Tryz.underlying47
  obtain ⟨cs, rfl, hsz⟩ := okWide_struct hs hv
  have hC : Tryz.prog.cellsOf 47 = 8 := by kernel_rfl
  obtain ⟨fuel, hf⟩ := h
  obtain ⟨xs, n, _, hx, _, hxl, hfs⟩ := DataW.trod_struct hs hf
  have hsz8 : cs.size = 8 := hsz.trans hC
  obtain ⟨l⟩ := cs
  match l, hsz8, xs, hxl, hx, hfs with
  | [v0, v1, v2, v3, v4, v5, v6, v7], _, [y0, y1, y2, y3, y4, y5, y6, y7], _, hx, hfs =>
    have cI : Tryz.prog.cellsOf 3 = 1 := by kernel_rfl
    have cS : Tryz.prog.cellsOf 26 = 1 := by kernel_rfl
    have cN : Tryz.prog.cellsOf 25 = 1 := by kernel_rfl
    have cT : Tryz.prog.cellsOf 9 = 1 := by kernel_rfl
    have t0 := hfs 0 _ rfl
    have t1 := hfs 1 _ rfl
    have t2 := hfs 2 _ rfl
    have t3 := hfs 3 _ rfl
    have t4 := hfs 4 _ rfl
    have t5 := hfs 5 _ rfl
    have t6 := hfs 6 _ rfl
    have t7 := hfs 7 _ rfl
    simp [Value.cells, cI, cS, cN] at t0 t1 t2 t3 t4 t5 t6 t7
    obtain ⟨s0, e0, _, w0⟩ := DataW.trod_int Tryz.underlying3 t0
    obtain ⟨ks, k1, k2, k3⟩ := strs_of_trod Tryz.underlying26 Tryz.underlying9 cT t1
    obtain ⟨vs, l1, l2, _⟩ := strs_of_trod Tryz.underlying26 Tryz.underlying9 cT t2
    obtain ⟨ns, m1, m2⟩ := nums_of_trod Tryz.underlying25 Tryz.underlying3 cI t3
    obtain ⟨s4, e4, _, w4⟩ := DataW.trod_int Tryz.underlying3 t4
    obtain ⟨s5, e5, _, w5⟩ := DataW.trod_int Tryz.underlying3 t5
    obtain ⟨s6, e6, _, w6⟩ := DataW.trod_int Tryz.underlying3 t6
    obtain ⟨s7, e7, _, w7⟩ := DataW.trod_int Tryz.underlying3 t7
    simp at e0 e4 e5 e6 e7
    subst e0 e4 e5 e6 e7
    have b0 := bounds_i64 w0
    have b4 := bounds_i64 w4
    have b5 := bounds_i64 w5
    have b6 := bounds_i64 w6
    have b7 := bounds_i64 w7
    refine ⟨⟨s0, ks, vs, ns, s4, s5, s6, s7⟩, v1, v2, v3, rfl, ⟨k1, l1, m1⟩, ⟨k2, l2, m2, by simp only; omega, by simp only; omega, by simp only; omega, by simp only; omega, by simp only; omega⟩, fun s hs' => ?_⟩
    have := k3 s hs'
    simp only [Prod.mk.injEq] at hx
    rw [hx.1]
    simp only [DataW.weights, hs]
    exact DataW.weights_mem_each (j := 1) rfl rfl _ this

/-- .. and no text is longer than memory bears. -/
theorem page_sized {H : Type} {q : Pg} {d : DataW H} {ts : List TypeId} {ds : List (DataW H)} {j : Nat} (hj : ts[j]? = some 47) (hd : ds[j]? = some d) (hsz : (DataW.weightsEach Tryz.prog ts ds).all (· ≤ reachBytes) = true)
    (hz : ∀ s ∈ q.keys, s.size ∈ d.weights Tryz.prog 47) : ∀ s ∈ q.keys, s.size ≤ 140737488351232 := fun s hs => by
  have := List.all_eq_true.1 hsz _ (DataW.weights_mem_each hj hd _ (hz s hs))
  simp only [decide_eq_true_eq] at this
  exact this
end Go.Proofs.YthkmohcdgnldgaaGreat

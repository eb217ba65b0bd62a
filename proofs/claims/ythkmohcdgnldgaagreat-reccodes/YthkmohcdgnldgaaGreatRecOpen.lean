/- What the walks are told of a record that came in. Own lemmas, no statement. -/
import Derived.Test.YthkmohcdgnldgaaGreatRec12
import Derived.Test.YthkmohcdgnldgaaGreatPgOpen
set_option linter.unusedSimpArgs false
set_option linter.unusedVariables false
namespace Go.Proofs.YthkmohcdgnldgaaGreat
open Go.ChangeShapes Go.WideShapes Go.ChangeAt Go.RowKit

section
variable {H : Type} {enc : TypeId × Value → H} {W : World}
theorem addr_addR (a : Addr) (i j : Nat) : (a.add i).add j = a.add (i + j) := by
  unfold Addr.add
  by_cases hi : i = 0 <;> by_cases hj : j = 0 <;> simp [hi, hj, Nat.add_assoc]
theorem rows_of_trod {α : Type} {P : Program} {t e : TypeId} {k fuel : Nat} {v : Value} {x : DataW H × List MemPlace} {cs : α → List Value} {Ok : α → Prop} (dflt : α) (ht : P.underlying t = some (.slice e)) (ce : P.cellsOf e = k)
    (each : ∀ fuel' (cs' : List Value) y, cs'.length = k → DataW.trod enc P W 0 (fun _ => true) true fuel' e cs' = some y → ∃ q : α, cs' = cs q ∧ Ok q)
    (h : DataW.trod enc P W 0 (fun _ => true) true fuel t [v] = some x) : ∃ l, RowsN W k cs v l ∧ ∀ x ∈ l, Ok x := by
  rcases Deep.open_slice ht h with ⟨hcs, _⟩ | ⟨a, len, cap, m, n, D, Pl, hcs, _, hl, hm, hmm, _, hcell⟩
  · simp at hcs
    subst hcs
    exact ⟨[], RowsN.nil _ _ _, fun x hx => by cases hx⟩
  · simp at hcs
    subst hcs
    have ev : ∀ i, i < len → ∃ q : α, (∀ j u, (cs q)[j]? = some u → W.cell? (a.add (i * k + j)) = some u) ∧ Ok q := by
      intro i hi
      obtain ⟨cs', k1', k2⟩ := hcell i (by rw [hmm]; simp; omega)
      rw [ce] at k1'
      obtain ⟨_, hlen, hc⟩ := World.cells?_some k1'
      obtain ⟨q, rfl, hq⟩ := each n cs' _ hlen k2
      refine ⟨q, fun j u hu => ?_, hq⟩
      have hj := (List.getElem?_eq_some_iff.1 hu).1
      have := hc j (by omega)
      rw [addr_addR] at this
      rw [this]
      exact hu
    haveI : Inhabited α := ⟨dflt⟩
    obtain ⟨q, hq⟩ := Deep.choose_lt ev
    have hlen : ((List.range len).map q).length = len := by simp
    refine ⟨(List.range len).map q, ⟨some a, cap, by rw [hlen], by rw [hlen]; exact hl, hm, fun e => (by cases e), fun ad had i x hx j u hu => ?_⟩, fun x hx => ?_⟩
    · cases had
      have hi := (List.getElem?_eq_some_iff.1 hx).1
      rw [hlen] at hi
      simp [hi] at hx
      subst hx
      exact (hq i hi).1 j u hu
    · obtain ⟨i, hi, rfl⟩ := List.mem_map.1 hx
      exact (hq i (by simpa using hi)).2
set_option maxRecDepth 100000 in
set_option maxHeartbeats 1000000 in
theorem tid_of_trodR {fuel : Nat} {cs : List Value} {x : DataW H × List MemPlace} (hl : cs.length = 2) (h : DataW.trod enc Tryz.prog W 0 (fun _ => true) true fuel 24 cs = some x) :
    ∃ a b : Int, cs = [.int .u64 a, .int .i64 b] ∧ (0 ≤ a ∧ a < 18446744073709551616) ∧ (-9223372036854775808 ≤ b ∧ b < 9223372036854775808) := by
  have hs := Tryz.underlying24
  have cU : Tryz.prog.cellsOf 22 = 1 := by kernel_rfl
  have cI : Tryz.prog.cellsOf 3 = 1 := by kernel_rfl
  obtain ⟨xs, n', _, _, _, hxl, hfs⟩ := DataW.trod_struct hs h
  match cs, hl, xs, hxl with
  | [v0, v1], _, [y0, y1], _ =>
    have t0 := hfs 0 _ rfl
    have t1 := hfs 1 _ rfl
    simp [cU, cI] at t0 t1
    obtain ⟨s0, e0, _, w0⟩ := DataW.trod_int Tryz.underlying22 t0
    obtain ⟨s1, e1, _, w1⟩ := DataW.trod_int Tryz.underlying3 t1
    simp at e0 e1
    subst e0 e1
    have b0 := bounds_u64 w0
    have b1 := bounds_i64 w1
    exact ⟨s0, s1, rfl, by omega, by omega⟩
set_option maxRecDepth 100000 in
set_option maxHeartbeats 1000000 in
theorem page_of_trod {fuel : Nat} {cs : List Value} {x : DataW H × List MemPlace} (hl : cs.length = 8) (h : DataW.trod enc Tryz.prog W 0 (fun _ => true) true fuel 47 cs = some x) :
    ∃ (q : Pg) (kv vv dv : Value), cs = (pgc q kv vv dv).toList ∧ PgAt W q kv vv dv ∧ q.Ok := by
  have hs := Tryz.underlying47
  obtain ⟨xs, n, _, _, _, hxl, hfs⟩ := DataW.trod_struct hs h
  match cs, hl, xs, hxl, hfs with
  | [v0, v1, v2, v3, v4, v5, v6, v7], _, [y0, y1, y2, y3, y4, y5, y6, y7], _, hfs =>
    have cI : Tryz.prog.cellsOf 3 = 1 := by kernel_rfl
    have cS : Tryz.prog.cellsOf 26 = 1 := by kernel_rfl
    have cN : Tryz.prog.cellsOf 25 = 1 := by kernel_rfl
    have cT : Tryz.prog.cellsOf 9 = 1 := by kernel_rfl
    have t0 := hfs 0 _ rfl
    have t1 := hfs 1 _ rfl
    have t2 := hfs 2 _ rfl
    have t3 := hfs 3 _ rfl
    have t4 := hfs 4 _ rfl
    have t5 := hfs 5 _ rfl
    have t6 := hfs 6 _ rfl
    have t7 := hfs 7 _ rfl
    simp [cI, cS, cN] at t0 t1 t2 t3 t4 t5 t6 t7
    obtain ⟨s0, e0, _, w0⟩ := DataW.trod_int Tryz.underlying3 t0
    obtain ⟨ks, k1, k2, k3⟩ := strs_of_trod Tryz.underlying26 Tryz.underlying9 cT t1
    obtain ⟨vs, l1, l2, _⟩ := strs_of_trod Tryz.underlying26 Tryz.underlying9 cT t2
    obtain ⟨ns, m1, m2⟩ := nums_of_trod Tryz.underlying25 Tryz.underlying3 cI t3
    obtain ⟨s4, e4, _, w4⟩ := DataW.trod_int Tryz.underlying3 t4
    obtain ⟨s5, e5, _, w5⟩ := DataW.trod_int Tryz.underlying3 t5
    obtain ⟨s6, e6, _, w6⟩ := DataW.trod_int Tryz.underlying3 t6
    obtain ⟨s7, e7, _, w7⟩ := DataW.trod_int Tryz.underlying3 t7
    simp at e0 e4 e5 e6 e7
    subst e0 e4 e5 e6 e7
    have b0 := bounds_i64 w0
    have b4 := bounds_i64 w4
    have b5 := bounds_i64 w5
    have b6 := bounds_i64 w6
    have b7 := bounds_i64 w7
    exact ⟨⟨s0, ks, vs, ns, s4, s5, s6, s7⟩, v1, v2, v3, rfl, ⟨k1, l1, m1⟩, ⟨k2, l2, m2, by simp only; omega, by simp only; omega, by simp only; omega, by simp only; omega, by simp only; omega⟩⟩
/-- What is said of each open one, each decided one, each turned page that came in. -/
def OpenOk (W : World) (x : OpenV) : Prop := x.At W ∧ (0 ≤ x.num ∧ x.num < 18446744073709551616) ∧ (0 ≤ x.last ∧ x.last < 18446744073709551616) ∧ (0 ≤ x.first ∧ x.first < 18446744073709551616)
def DoneOk (W : World) (x : DoneV) : Prop := x.At W ∧ 0 ≤ x.num ∧ x.num < 18446744073709551616
set_option maxRecDepth 100000 in
set_option maxHeartbeats 1000000 in
theorem chg_of_trod {fuel : Nat} {cs : List Value} {x : DataW H × List MemPlace} (hl : cs.length = 9) (h : DataW.trod enc Tryz.prog W 0 (fun _ => true) true fuel 49 cs = some x) : ∃ q : ChgV, cs = q.c ∧ q.At W := by
  have hs := Tryz.underlying49
  obtain ⟨xs, n, _, _, _, hxl, hfs⟩ := DataW.trod_struct hs h
  match cs, hl, xs, hxl, hfs with
  | [v0, v1, v2, v3, v4, v5, v6, v7, v8], _, [y0, y1], _, hfs =>
    have cI : Tryz.prog.cellsOf 3 = 1 := by kernel_rfl
    have cP : Tryz.prog.cellsOf 47 = 8 := by kernel_rfl
    have t0 := hfs 0 _ rfl
    have t1 := hfs 1 _ rfl
    simp [cI, cP] at t0 t1
    obtain ⟨s0, e0, _, w0⟩ := DataW.trod_int Tryz.underlying3 t0
    obtain ⟨q, kv, vv, dv, he, hp, hok⟩ := page_of_trod rfl t1
    obtain ⟨ka, kc, va, vc, da, dc, rfl, rfl, rfl, _, _, _⟩ := hp.forms
    simp at e0
    subst e0
    simp only [pgc, List.cons.injEq, and_true] at he
    obtain ⟨rfl, rfl, rfl, rfl, rfl, rfl, rfl, rfl⟩ := he
    exact ⟨⟨s0, q, ka, _, kc, va, _, vc, da, _, dc⟩, rfl, ⟨hp, hok⟩⟩
set_option maxRecDepth 100000 in
set_option maxHeartbeats 1000000 in
theorem open_of_trod {fuel : Nat} {cs : List Value} {x : DataW H × List MemPlace} (hl : cs.length = 7) (h : DataW.trod enc Tryz.prog W 0 (fun _ => true) true fuel 45 cs = some x) : ∃ q : OpenV, cs = q.c ∧ OpenOk W q := by
  have hs := Tryz.underlying45
  obtain ⟨xs, n, _, _, _, hxl, hfs⟩ := DataW.trod_struct hs h
  match cs, hl, xs, hxl, hfs with
  | [v0, v1, v2, v3, v4, v5, v6], _, [y0, y1, y2, y3, y4, y5], _, hfs =>
    have cI : Tryz.prog.cellsOf 3 = 1 := by kernel_rfl
    have cU : Tryz.prog.cellsOf 22 = 1 := by kernel_rfl
    have cB : Tryz.prog.cellsOf 4 = 1 := by kernel_rfl
    have cT : Tryz.prog.cellsOf 9 = 1 := by kernel_rfl
    have cS : Tryz.prog.cellsOf 26 = 1 := by kernel_rfl
    have cD : Tryz.prog.cellsOf 24 = 2 := by kernel_rfl
    have t0 := hfs 0 _ rfl
    have t1 := hfs 1 _ rfl
    have t2 := hfs 2 _ rfl
    have t3 := hfs 3 _ rfl
    have t4 := hfs 4 _ rfl
    have t5 := hfs 5 _ rfl
    simp [cI, cU, cB, cS, cD] at t0 t1 t2 t3 t4 t5
    obtain ⟨s0, s1, e0, w0, w1⟩ := tid_of_trodR rfl t0
    obtain ⟨s2, e2, _, w2⟩ := DataW.trod_int Tryz.underlying22 t1
    obtain ⟨s3, e3, _, w3⟩ := DataW.trod_int Tryz.underlying22 t2
    obtain ⟨s4, e4, _, w4⟩ := DataW.trod_int Tryz.underlying3 t3
    obtain ⟨s5, e5, _⟩ := DataW.trod_bool Tryz.underlying4 t4
    obtain ⟨ks, k1, k2, _⟩ := strs_of_trod Tryz.underlying26 Tryz.underlying9 cT t5
    simp at e0 e2 e3 e4 e5
    obtain ⟨rfl, rfl⟩ := e0
    subst e2 e3 e4 e5
    obtain ⟨a, c, rfl⟩ := k1.form
    have b2 := bounds_u64 w2
    have b3 := bounds_u64 w3
    exact ⟨⟨s0, s1, s2, s3, s4, s5, a, _, c, ks⟩, rfl, ⟨k1, k2⟩, w0, by simp only; omega, by simp only; omega⟩
set_option maxRecDepth 100000 in
set_option maxHeartbeats 1000000 in
theorem done_of_trod {fuel : Nat} {cs : List Value} {x : DataW H × List MemPlace} (hl : cs.length = 3) (h : DataW.trod enc Tryz.prog W 0 (fun _ => true) true fuel 51 cs = some x) : ∃ q : DoneV, cs = q.c ∧ DoneOk W q := by
  have hs := Tryz.underlying51
  obtain ⟨xs, n, _, _, _, hxl, hfs⟩ := DataW.trod_struct hs h
  match cs, hl, xs, hxl, hfs with
  | [v0, v1, v2], _, [y0, y1], _, hfs =>
    have cI : Tryz.prog.cellsOf 3 = 1 := by kernel_rfl
    have cN : Tryz.prog.cellsOf 25 = 1 := by kernel_rfl
    have cD : Tryz.prog.cellsOf 24 = 2 := by kernel_rfl
    have t0 := hfs 0 _ rfl
    have t1 := hfs 1 _ rfl
    simp [cI, cN, cD] at t0 t1
    obtain ⟨s0, s1, e0, w0, w1⟩ := tid_of_trodR rfl t0
    obtain ⟨ks, k1, k2⟩ := nums_of_trod Tryz.underlying25 Tryz.underlying3 cI t1
    simp at e0
    obtain ⟨rfl, rfl⟩ := e0
    obtain ⟨a, c, rfl⟩ := k1.form
    exact ⟨⟨s0, s1, a, _, c, ks⟩, rfl, ⟨k1⟩, w0⟩
/-- A record that came in. -/
def recVal (x : RecV) : Value := .agg #[.int .i64 x.kind, .int .u64 x.num, .int .i64 x.node, .string x.key, .bool x.was, .string x.old, .int .u64 x.prev, .slice x.na x.nn x.nc, .slice x.ra x.rn x.rc, .slice x.ga x.gn x.gc, .slice x.oa x.om x.oc, .slice x.da x.dn x.dc]
set_option maxRecDepth 100000 in
set_option maxHeartbeats 1000000 in
theorem rec_of {r : Reach} {b0 : Nat} {v : Value} {d : DataW H} {p : List MemPlace}
    (hv : Value.okWide Tryz.prog W r b0 31 v) (h : DataW.Trod enc Tryz.prog W 0 (fun _ => true) true 31 v d p) : ∃ x : RecV, v = recVal x ∧ x.At W ∧ x.Wf := by
  have hs := Tryz.underlying31
  obtain ⟨cs, rfl, hsz⟩ := okWide_struct hs hv
  have hC : Tryz.prog.cellsOf 31 = 12 := by kernel_rfl
  obtain ⟨fuel, hf⟩ := h
  obtain ⟨xs, n, _, hx, _, hxl, hfs⟩ := DataW.trod_struct hs hf
  have hsz8 : cs.size = 12 := hsz.trans hC
  obtain ⟨l⟩ := cs
  match l, hsz8, xs, hxl, hfs with
  | [v0, v1, v2, v3, v4, v5, v6, v7, v8, v9, v10, v11], _, [y0, y1, y2, y3, y4, y5, y6, y7, y8, y9, y10], _, hfs =>
    have cI : Tryz.prog.cellsOf 3 = 1 := by kernel_rfl
    have cU : Tryz.prog.cellsOf 22 = 1 := by kernel_rfl
    have cB : Tryz.prog.cellsOf 4 = 1 := by kernel_rfl
    have cT : Tryz.prog.cellsOf 9 = 1 := by kernel_rfl
    have cS : Tryz.prog.cellsOf 26 = 1 := by kernel_rfl
    have cN : Tryz.prog.cellsOf 25 = 1 := by kernel_rfl
    have cD : Tryz.prog.cellsOf 24 = 2 := by kernel_rfl
    have cG : Tryz.prog.cellsOf 27 = 1 := by kernel_rfl
    have cO : Tryz.prog.cellsOf 28 = 1 := by kernel_rfl
    have cE : Tryz.prog.cellsOf 29 = 1 := by kernel_rfl
    have t0 := hfs 0 _ rfl
    have t1 := hfs 1 _ rfl
    have t2 := hfs 2 _ rfl
    have t3 := hfs 3 _ rfl
    have t4 := hfs 4 _ rfl
    have t5 := hfs 5 _ rfl
    have t6 := hfs 6 _ rfl
    have t7 := hfs 7 _ rfl
    have t8 := hfs 8 _ rfl
    have t9 := hfs 9 _ rfl
    have t10 := hfs 10 _ rfl
    simp [Value.cells, cI, cU, cB, cT, cS, cN, cD, cG, cO, cE] at t0 t1 t2 t3 t4 t5 t6 t7 t8 t9 t10
    obtain ⟨s0, e0, _, w0⟩ := DataW.trod_int Tryz.underlying3 t0
    obtain ⟨s1, s2, e1, w1, _⟩ := tid_of_trodR rfl t1
    obtain ⟨s3, e3, _, w3⟩ := DataW.trod_string Tryz.underlying9 t2
    obtain ⟨s4, e4, _⟩ := DataW.trod_bool Tryz.underlying4 t3
    obtain ⟨s5, e5, _, w5⟩ := DataW.trod_string Tryz.underlying9 t4
    obtain ⟨s6, e6, _, w6⟩ := DataW.trod_int Tryz.underlying22 t5
    obtain ⟨ns, n1, _⟩ := nums_of_trod Tryz.underlying25 Tryz.underlying3 cI t6
    obtain ⟨ks, k1, k2, _⟩ := strs_of_trod Tryz.underlying26 Tryz.underlying9 cT t7
    obtain ⟨gs, g1, g2⟩ := rows_of_trod (cs := ChgV.c) (Ok := fun q => q.At W) noChg Tryz.underlying27 (k := 9) (by kernel_rfl) (fun _ _ _ hl hq => chg_of_trod hl hq) t8
    obtain ⟨os, o1, o2⟩ := rows_of_trod (cs := OpenV.c) (Ok := OpenOk W) noOpen Tryz.underlying28 (k := 7) (by kernel_rfl) (fun _ _ _ hl hq => open_of_trod hl hq) t9
    obtain ⟨ds, d1, d2⟩ := rows_of_trod (cs := DoneV.c) (Ok := DoneOk W) noDone Tryz.underlying29 (k := 3) (by kernel_rfl) (fun _ _ _ hl hq => done_of_trod hl hq) t10
    simp at e0 e1 e3 e4 e5 e6
    obtain ⟨rfl, rfl⟩ := e1
    subst e0 e3 e4 e5 e6
    obtain ⟨na, nc, rfl⟩ := n1.form
    obtain ⟨ka, kc, rfl⟩ := k1.form
    obtain ⟨gn, ga, gc, rfl⟩ := g1.any
    obtain ⟨om, oa, oc, rfl⟩ := o1.any
    obtain ⟨dn, da, dc, rfl⟩ := d1.any
    have b6 := bounds_u64 w6
    exact ⟨⟨s0, s1, s2, s3, s4, s5, s6, na, _, nc, ns, ka, _, kc, ks, ga, gn, gc, gs, oa, om, oc, os, da, dn, dc, ds⟩, rfl,
      ⟨w3, w5, n1, k1, k2, g1, g2, o1, fun c hc => (o2 c hc).1, d1, fun c hc => (d2 c hc).1⟩, ⟨w1, by simp only; omega, fun o ho => (o2 o ho).2, fun o ho => (d2 o ho).2⟩⟩
end
end Go.Proofs.YthkmohcdgnldgaaGreat

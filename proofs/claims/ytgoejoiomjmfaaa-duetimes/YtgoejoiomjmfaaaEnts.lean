/- What the walks are told of arguments that came in: slices of entries, of a queue's operations. Own lemmas, no statement. -/
import Derived.Test.YtgoejoiomjmfaaaDue18
import Derived.Test.YtgoejoiomjmfaaaCell
import Derived.Deep.Grids
namespace Go.Proofs.Ytgoejoiomjmfaaa
open Go.ChangeShapes Go.WideShapes Go.ChangeAt Go.RowKit

theorem addr_add2 (a : Addr) (i j : Nat) : (a.add i).add j = a.add (i + j) := by
  unfold Addr.add
  by_cases hi : i = 0 <;> by_cases hj : j = 0 <;> simp [hi, hj, Nat.add_assoc]
theorem cell_on {w : World} {a : Addr} {i j : Nat} {v : Value} (hj : 0 < j) (h : w.cell? (a.add (i + j)) = some v) : w.cell? ⟨(a.add i).block, (a.add i).off + j, none⟩ = some v := by
  unfold Addr.add at h ⊢
  rw [if_neg (by omega)] at h
  split
  · rename_i h0; subst h0; simpa using h
  · simpa [Nat.add_assoc] using h
theorem blk_add (a : Addr) (i : Nat) : (a.add i).block = a.block := by unfold Addr.add; split <;> rfl

/-- An entry lies at an address. -/
structure EntAt (w : World) (x : Addr) (i : Nat) (e : Ent) : Prop where
  c0 : w.cell? (x.add (i * 4)) = some (.int .i64 e.at_)
  c1 : w.cell? (x.add (i * 4 + 1)) = some (.int .i64 e.kind)
  c2 : w.cell? (x.add (i * 4 + 2)) = some (.int .u64 e.num)
  c3 : w.cell? (x.add (i * 4 + 3)) = some (.int .i64 e.node)
  wa : (Lit.int .i64 e.at_).wf = true
  wk : e.key.wf
def IsEnts (w : World) (a : Option Addr) (len : Nat) (es : List Ent) : Prop :=
  es.length = len ∧ len ≤ maxLen ∧ (a = none → len = 0) ∧ ∀ x, a = some x → ∀ i (h : i < es.length), EntAt w x i es[i]
theorem EntAt.below {w w' : World} {x : Addr} {i : Nat} {o : Ent} (h : EntAt w x i o) (hb : Below w.heap.size w w') : EntAt w' x i o :=
  ⟨(Below.cell hb (cell_lt h.c0)).trans h.c0, (Below.cell hb (cell_lt h.c1)).trans h.c1, (Below.cell hb (cell_lt h.c2)).trans h.c2, (Below.cell hb (cell_lt h.c3)).trans h.c3, h.wa, h.wk⟩

section
variable {H : Type} {enc : TypeId × Value → H} {P : Program} {W : World}
theorem tid_of_trod {t : TypeId} {g0 g1 : Field} {base fuel : Nat} {v0 v1 : Value} {x : DataW H × List MemPlace} (hs : P.underlying t = some (.struct #[g0, g1])) (o0 : g0.offset = 0) (o1 : g1.offset = 1) (c0 : P.cellsOf g0.type = 1) (c1 : P.cellsOf g1.type = 1)
    (h0 : P.underlying g0.type = some (.int .u64)) (h1 : P.underlying g1.type = some (.int .i64)) (h : DataW.trod enc P W base (fun _ => true) true fuel t [v0, v1] = some x) :
    ∃ a b : Int, v0 = .int .u64 a ∧ v1 = .int .i64 b ∧ (Lit.int .u64 a).wf = true ∧ (Lit.int .i64 b).wf = true := by
  obtain ⟨xs, n', _, _, _, hxl, hfs⟩ := DataW.trod_struct hs h
  match xs, hxl with
  | [y0, y1], _ =>
    have t0 := hfs 0 g0 rfl
    have t1 := hfs 1 g1 rfl
    simp [o0, o1, c0, c1] at t0 t1
    obtain ⟨s0, e0, _, w0⟩ := DataW.trod_int h0 t0
    obtain ⟨s1, e1, _, w1⟩ := DataW.trod_int h1 t1
    simp at e0 e1
    exact ⟨s0, s1, e0, e1, w0, w1⟩

theorem isEnts_of {t e : TypeId} {f0 f1 f2 g0 g1 : Field} {a : Option Addr} {len cap : Nat} {d : DataW H} {p : List MemPlace}
    (ht : P.underlying t = some (.slice e)) (he : P.underlying e = some (.struct #[f0, f1, f2])) (ce : P.cellsOf e = 4) (o0 : f0.offset = 0) (o1 : f1.offset = 1) (o2 : f2.offset = 2)
    (c0 : P.cellsOf f0.type = 1) (c1 : P.cellsOf f1.type = 1) (c2 : P.cellsOf f2.type = 2)
    (h0 : P.underlying f0.type = some (.int .i64)) (h1 : P.underlying f1.type = some (.int .i64)) (h2 : P.underlying f2.type = some (.struct #[g0, g1]))
    (p0 : g0.offset = 0) (p1 : g1.offset = 1) (d0 : P.cellsOf g0.type = 1) (d1 : P.cellsOf g1.type = 1) (k0 : P.underlying g0.type = some (.int .u64)) (k1 : P.underlying g1.type = some (.int .i64))
    (h : DataW.Trod enc P W 0 (fun _ => true) true t (.slice a len cap) d p) : ∃ es, IsEnts W a len es := by
  obtain ⟨fuel, hf⟩ := h
  rcases Deep.open_slice ht hf with ⟨hcs, _⟩ | ⟨x, l, c, m, n, D, Pl, hcs, _, hl, hm, hmm, _, hcell⟩
  · simp [Value.cells] at hcs
    obtain ⟨rfl, rfl, rfl⟩ := hcs
    exact ⟨[], rfl, Nat.zero_le _, fun _ => rfl, fun x h => by cases h⟩
  · simp [Value.cells] at hcs
    obtain ⟨rfl, rfl, rfl⟩ := hcs
    have each : ∀ i, i < len → ∃ q : Ent, EntAt W x i q := by
      intro i hi
      obtain ⟨cs', k1', k2⟩ := hcell i (by rw [hmm]; simp; omega)
      rw [ce] at k1'
      obtain ⟨_, hlen, hc⟩ := World.cells?_some k1'
      obtain ⟨xs, n', _, _, _, hxl, hfs⟩ := DataW.trod_struct he k2
      match cs', hlen, xs, hxl with
      | [v0, v1, v2, v3], _, [y0, y1, y2], _ =>
        have t0 := hfs 0 f0 rfl
        have t1 := hfs 1 f1 rfl
        have t2 := hfs 2 f2 rfl
        simp [o0, o1, o2, c0, c1, c2] at t0 t1 t2
        obtain ⟨s0, e0, _, w0⟩ := DataW.trod_int h0 t0
        obtain ⟨s1, e1, _, w1⟩ := DataW.trod_int h1 t1
        obtain ⟨s2, s3, e2, e3, w2, w3⟩ := tid_of_trod h2 p0 p1 d0 d1 k0 k1 t2
        simp at e0 e1
        subst e0 e1 e2 e3
        have z0 := hc 0 (by omega)
        have z1 := hc 1 (by omega)
        have z2 := hc 2 (by omega)
        have z3 := hc 3 (by omega)
        rw [addr_add2] at z0 z1 z2 z3
        exact ⟨⟨s0, s1, s2, s3⟩, by simpa using z0, by simpa using z1, by simpa using z2, by simpa using z3, w0, w1, w2, w3⟩
    haveI : Inhabited Ent := ⟨⟨0, 0, 0, 0⟩⟩
    obtain ⟨q, hq⟩ := Deep.choose_lt each
    refine ⟨(List.range len).map q, by simp, by omega, fun h => (by cases h), fun y hy i hi => ?_⟩
    cases hy
    simp at hi
    simp only [List.getElem_map, List.getElem_range]
    exact hq i hi

/-- An operation of the law's: what it does, an entry. -/
structure OpE where
  k : Int
  e : Ent
structure OpAt (w : World) (x : Addr) (i : Nat) (o : OpE) : Prop where
  c0 : w.cell? (x.add (i * 5)) = some (.int .i64 o.k)
  c1 : w.cell? (x.add (i * 5 + 1)) = some (.int .i64 o.e.kind)
  c2 : w.cell? (x.add (i * 5 + 2)) = some (.int .u64 o.e.num)
  c3 : w.cell? (x.add (i * 5 + 3)) = some (.int .i64 o.e.node)
  c4 : w.cell? (x.add (i * 5 + 4)) = some (.int .i64 o.e.at_)
  wo : (Lit.int .i64 o.k).wf = true
  wa : (Lit.int .i64 o.e.at_).wf = true
  wk : o.e.key.wf
def IsOpsE (w : World) (a : Option Addr) (len : Nat) (os : List OpE) : Prop :=
  os.length = len ∧ len ≤ maxLen ∧ (a = none → len = 0) ∧ ∀ x, a = some x → ∀ i (h : i < os.length), OpAt w x i os[i]
theorem OpAt.below {w w' : World} {x : Addr} {i : Nat} {o : OpE} (h : OpAt w x i o) (hb : Below w.heap.size w w') : OpAt w' x i o :=
  ⟨(Below.cell hb (cell_lt h.c0)).trans h.c0, (Below.cell hb (cell_lt h.c1)).trans h.c1, (Below.cell hb (cell_lt h.c2)).trans h.c2, (Below.cell hb (cell_lt h.c3)).trans h.c3, (Below.cell hb (cell_lt h.c4)).trans h.c4, h.wo, h.wa, h.wk⟩

theorem isOpsE_of {t e : TypeId} {f0 f1 f2 f3 g0 g1 : Field} {a : Option Addr} {len cap : Nat} {d : DataW H} {p : List MemPlace}
    (ht : P.underlying t = some (.slice e)) (he : P.underlying e = some (.struct #[f0, f1, f2, f3])) (ce : P.cellsOf e = 5) (o0 : f0.offset = 0) (o1 : f1.offset = 1) (o2 : f2.offset = 2) (o3 : f3.offset = 4)
    (c0 : P.cellsOf f0.type = 1) (c1 : P.cellsOf f1.type = 1) (c2 : P.cellsOf f2.type = 2) (c3 : P.cellsOf f3.type = 1)
    (h0 : P.underlying f0.type = some (.int .i64)) (h1 : P.underlying f1.type = some (.int .i64)) (h2 : P.underlying f2.type = some (.struct #[g0, g1])) (h3 : P.underlying f3.type = some (.int .i64))
    (p0 : g0.offset = 0) (p1 : g1.offset = 1) (d0 : P.cellsOf g0.type = 1) (d1 : P.cellsOf g1.type = 1) (k0 : P.underlying g0.type = some (.int .u64)) (k1 : P.underlying g1.type = some (.int .i64))
    (h : DataW.Trod enc P W 0 (fun _ => true) true t (.slice a len cap) d p) : ∃ es, IsOpsE W a len es := by
  obtain ⟨fuel, hf⟩ := h
  rcases Deep.open_slice ht hf with ⟨hcs, _⟩ | ⟨x, l, c, m, n, D, Pl, hcs, _, hl, hm, hmm, _, hcell⟩
  · simp [Value.cells] at hcs
    obtain ⟨rfl, rfl, rfl⟩ := hcs
    exact ⟨[], rfl, Nat.zero_le _, fun _ => rfl, fun x h => by cases h⟩
  · simp [Value.cells] at hcs
    obtain ⟨rfl, rfl, rfl⟩ := hcs
    have each : ∀ i, i < len → ∃ q : OpE, OpAt W x i q := by
      intro i hi
      obtain ⟨cs', k1', k2⟩ := hcell i (by rw [hmm]; simp; omega)
      rw [ce] at k1'
      obtain ⟨_, hlen, hc⟩ := World.cells?_some k1'
      obtain ⟨xs, n', _, _, _, hxl, hfs⟩ := DataW.trod_struct he k2
      match cs', hlen, xs, hxl with
      | [v0, v1, v2, v3, v4], _, [y0, y1, y2, y3], _ =>
        have t0 := hfs 0 f0 rfl
        have t1 := hfs 1 f1 rfl
        have t2 := hfs 2 f2 rfl
        have t3 := hfs 3 f3 rfl
        simp [o0, o1, o2, o3, c0, c1, c2, c3] at t0 t1 t2 t3
        obtain ⟨s0, e0, _, w0⟩ := DataW.trod_int h0 t0
        obtain ⟨s1, e1, _, w1⟩ := DataW.trod_int h1 t1
        obtain ⟨s4, e4, _, w4⟩ := DataW.trod_int h3 t3
        obtain ⟨s2, s3, e2, e3, w2, w3⟩ := tid_of_trod h2 p0 p1 d0 d1 k0 k1 t2
        simp at e0 e1 e4
        subst e0 e1 e2 e3 e4
        have z0 := hc 0 (by omega)
        have z1 := hc 1 (by omega)
        have z2 := hc 2 (by omega)
        have z3 := hc 3 (by omega)
        have z4 := hc 4 (by omega)
        rw [addr_add2] at z0 z1 z2 z3 z4
        exact ⟨⟨s0, ⟨s4, s1, s2, s3⟩⟩, by simpa using z0, by simpa using z1, by simpa using z2, by simpa using z3, by simpa using z4, w0, w4, w1, w2, w3⟩
    haveI : Inhabited OpE := ⟨⟨0, ⟨0, 0, 0, 0⟩⟩⟩
    obtain ⟨q, hq⟩ := Deep.choose_lt each
    refine ⟨(List.range len).map q, by simp, by omega, fun h => (by cases h), fun y hy i hi => ?_⟩
    cases hy
    simp at hi
    simp only [List.getElem_map, List.getElem_range]
    exact hq i hi
end
end Go.Proofs.Ytgoejoiomjmfaaa

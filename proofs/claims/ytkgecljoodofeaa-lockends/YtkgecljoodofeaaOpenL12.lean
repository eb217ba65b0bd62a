/- What the walks are told of lock's operations that came in. Own lemmas, no statement. -/
import Derived.Test.YtkgecljoodofeaaLkH1
import Derived.Deep.Grids
import Derived.WalkKit
import Derived.WalkLawsBesides
import Derived.ProofKit
import Derived.OpenShut
set_option linter.unusedSimpArgs false
set_option linter.unusedVariables false
namespace Go.Proofs.Ytkgecljoodofeaa
open Go.ChangeShapes Go.WideShapes Go.ChangeAt Go.RowKit

/-- An operation. -/
structure OpL where
  k : Int
  num : Int
  node : Int
  key : ByteArray
  mode : Int
def OpL.t (o : OpL) : Td := ⟨o.num, o.node⟩
def OpL.cs (o : OpL) : Array Value := #[.int .i64 o.k, .int .u64 o.num, .int .i64 o.node, .string o.key, .int .i64 o.mode]
def OpL.Wf (o : OpL) : Prop := o.t.wf ∧ o.key.size ≤ maxLen
/-- An operation lies at an address. -/
structure OpLAt (w : World) (x : Addr) (i : Nat) (o : OpL) : Prop where
  c0 : w.cell? (x.add (i * 5)) = some (.int .i64 o.k)
  c1 : w.cell? (x.add (i * 5 + 1)) = some (.int .u64 o.num)
  c2 : w.cell? (x.add (i * 5 + 2)) = some (.int .i64 o.node)
  c3 : w.cell? (x.add (i * 5 + 3)) = some (.string o.key)
  c4 : w.cell? (x.add (i * 5 + 4)) = some (.int .i64 o.mode)
  wf : o.Wf
theorem addr_add2 (a : Addr) (i j : Nat) : (a.add i).add j = a.add (i + j) := by
  unfold Addr.add
  by_cases hi : i = 0 <;> by_cases hj : j = 0 <;> simp [hi, hj, Nat.add_assoc]
theorem cell_on {w : World} {a : Addr} {i j : Nat} {v : Value} (hj : 0 < j) (h : w.cell? (a.add (i + j)) = some v) : w.cell? ⟨(a.add i).block, (a.add i).off + j, none⟩ = some v := by
  unfold Addr.add at h ⊢
  rw [if_neg (by omega)] at h
  split
  · rename_i h0; subst h0; simpa using h
  · simpa [Nat.add_assoc] using h
theorem OpLAt.below {w w' : World} {x : Addr} {i : Nat} {o : OpL} (h : OpLAt w x i o) (hb : Ext w w') : OpLAt w' x i o :=
  ⟨(Below.cell hb (cell_lt h.c0)).trans h.c0, (Below.cell hb (cell_lt h.c1)).trans h.c1, (Below.cell hb (cell_lt h.c2)).trans h.c2, (Below.cell hb (cell_lt h.c3)).trans h.c3, (Below.cell hb (cell_lt h.c4)).trans h.c4, h.wf⟩
def IsOpsL (w : World) (a : Option Addr) (len : Nat) (os : List OpL) : Prop :=
  os.length = len ∧ len ≤ maxLen ∧ (a = none → len = 0) ∧ ∀ x, a = some x → ∀ i (h : i < os.length), OpLAt w x i os[i]
section
variable {H : Type} {enc : TypeId × Value → H} {W : World}
set_option maxRecDepth 100000 in
set_option maxHeartbeats 1000000 in
theorem tid_of_trodL {fuel : Nat} {cs : List Value} {x : DataW H × List MemPlace} (hl : cs.length = 2) (h : DataW.trod enc Try.prog W 0 (fun _ => true) true fuel 29 cs = some x) :
    ∃ a b : Int, cs = [.int .u64 a, .int .i64 b] ∧ (Lit.int .u64 a).wf = true ∧ (Lit.int .i64 b).wf = true := by
  have hs := Try.underlying29
  have cU : Try.prog.cellsOf 27 = 1 := by kernel_rfl
  have cI : Try.prog.cellsOf 3 = 1 := by kernel_rfl
  obtain ⟨xs, n', _, _, _, hxl, hfs⟩ := DataW.trod_struct hs h
  match cs, hl, xs, hxl with
  | [v0, v1], _, [y0, y1], _ =>
    have t0 := hfs 0 _ rfl
    have t1 := hfs 1 _ rfl
    simp [cU, cI] at t0 t1
    obtain ⟨s0, e0, _, w0⟩ := DataW.trod_int Try.underlying27 t0
    obtain ⟨s1, e1, _, w1⟩ := DataW.trod_int Try.underlying3 t1
    simp at e0 e1
    subst e0 e1
    exact ⟨s0, s1, rfl, w0, w1⟩
set_option maxRecDepth 100000 in
set_option maxHeartbeats 1000000 in
/-- An operation's five cells. -/
theorem opL_cells {fuel : Nat} {l : List Value} {x : DataW H × List MemPlace} (hl : l.length = 5) (hf : DataW.trod enc Try.prog W 0 (fun _ => true) true fuel 31 l = some x) : ∃ o : OpL, l = o.cs.toList ∧ o.Wf := by
  have hs := Try.underlying31
  obtain ⟨xs, n, _, hx, _, hxl, hfs⟩ := DataW.trod_struct hs hf
  match l, hl, xs, hxl, hfs with
  | [v0, v1, v2, v3, v4], _, [y0, y1, y2, y3], _, hfs =>
    have cI : Try.prog.cellsOf 3 = 1 := by kernel_rfl
    have cT : Try.prog.cellsOf 9 = 1 := by kernel_rfl
    have cD : Try.prog.cellsOf 29 = 2 := by kernel_rfl
    have t0 := hfs 0 _ rfl
    have t1 := hfs 1 _ rfl
    have t2 := hfs 2 _ rfl
    have t3 := hfs 3 _ rfl
    simp [Value.cells, cI, cT, cD] at t0 t1 t2 t3
    obtain ⟨s0, e0, _, w0⟩ := DataW.trod_int Try.underlying3 t0
    obtain ⟨s1, s2, e1, w1, w2⟩ := tid_of_trodL rfl t1
    obtain ⟨s3, e3, _, w3⟩ := DataW.trod_string Try.underlying9 t2
    obtain ⟨s4, e4, _, w4⟩ := DataW.trod_int Try.underlying3 t3
    simp at e0 e1 e3 e4
    obtain ⟨rfl, rfl⟩ := e1
    subst e0 e3 e4
    exact ⟨⟨s0, s1, s2, s3, s4⟩, rfl, ⟨w1, w2⟩, w3⟩
set_option maxHeartbeats 2000000 in
theorem isOpsL_of {a : Option Addr} {len cap : Nat} {d : DataW H} {p : List MemPlace}
    (h : DataW.Trod enc Try.prog W 0 (fun _ => true) true 22 (.slice a len cap) d p) : ∃ os, IsOpsL W a len os := by
  obtain ⟨fuel, hf⟩ := h
  have hf' : DataW.trod enc Try.prog W 0 (fun _ => true) true fuel 22 [.slice a len cap] = some (d, p) := by simpa [Value.cells] using hf
  rcases Deep.open_slice Try.underlying22 hf' with ⟨hcs, _⟩ | ⟨x, l, c, m, n, D, Pl, hcs, _, hl, hm, hmm, _, hcell⟩
  · simp at hcs
    obtain ⟨rfl, rfl, rfl⟩ := hcs
    exact ⟨[], rfl, Nat.zero_le _, fun _ => rfl, (fun x e => by cases e)⟩
  · simp at hcs
    obtain ⟨rfl, rfl, rfl⟩ := hcs
    have ce : Try.prog.cellsOf 31 = 5 := by kernel_rfl
    have each : ∀ i, i < len → ∃ q : OpL, OpLAt W x i q := by
      intro i hi
      obtain ⟨cs', k1, k2⟩ := hcell i (by rw [hmm]; simp; omega)
      rw [ce] at k1
      obtain ⟨_, hlen, hc⟩ := World.cells?_some k1
      obtain ⟨o, ho, hw⟩ := opL_cells hlen k2
      subst ho
      have z0 := hc 0 (by omega)
      have z1 := hc 1 (by omega)
      have z2 := hc 2 (by omega)
      have z3 := hc 3 (by omega)
      have z4 := hc 4 (by omega)
      rw [addr_add2] at z0 z1 z2 z3 z4
      exact ⟨o, by simpa [OpL.cs] using z0, by simpa [OpL.cs] using z1, by simpa [OpL.cs] using z2, by simpa [OpL.cs] using z3, by simpa [OpL.cs] using z4, hw⟩
    haveI : Inhabited OpL := ⟨⟨0, 0, 0, ByteArray.empty, 0⟩⟩
    obtain ⟨q, hq⟩ := Deep.choose_lt each
    refine ⟨(List.range len).map q, by simp, by omega, (fun e => by cases e), fun y hy i hi => ?_⟩
    cases hy
    simp at hi
    simp only [List.getElem_map, List.getElem_range]
    exact hq i hi
end
end Go.Proofs.Ytkgecljoodofeaa

/- What the walks are told of net's operations that came in. Own lemmas, no statement. -/
import Derived.Test.YtcemecclpofhbaaOpenBs
set_option linter.unusedSimpArgs false
set_option linter.unusedVariables false
namespace Go.Proofs.Ytcemecclpofhbaa
open Go.ChangeShapes Go.WideShapes Go.ChangeAt Go.RowKit

/-- An operation. -/
structure OpN where
  k : Int
  at_ : Int
  i : Int
  bo : Option Addr
  bn : Nat
  bc : Nat
  bl : List UInt8
  bt : UInt8
/-- An operation lies at an address. -/
structure OpNAt (w : World) (x : Addr) (i : Nat) (o : OpN) : Prop where
  c0 : w.cell? (x.add (i * 5)) = some (.int .i64 o.k)
  c1 : w.cell? (x.add (i * 5 + 1)) = some (.int .i64 o.at_)
  c2 : w.cell? (x.add (i * 5 + 2)) = some (.int .i64 o.i)
  c3 : w.cell? (x.add (i * 5 + 3)) = some (.slice o.bo o.bn o.bc)
  c4 : w.cell? (x.add (i * 5 + 4)) = some (.int .u8 (o.bt.toNat : Int))
  w1 : (Lit.int .i64 o.at_).wf = true
  w2 : (Lit.int .i64 o.i).wf = true
  src : Src w (.slice o.bo o.bn o.bc) o.bl
theorem addr_add2 (a : Addr) (i j : Nat) : (a.add i).add j = a.add (i + j) := by
  unfold Addr.add
  by_cases hi : i = 0 <;> by_cases hj : j = 0 <;> simp [hi, hj, Nat.add_assoc]
theorem OpNAt.below {w w' : World} {x : Addr} {i : Nat} {o : OpN} (h : OpNAt w x i o) (hb : Below w.heap.size w w') : OpNAt w' x i o :=
  ⟨(Below.cell hb (World.block_lt_of_cell? _ _ h.c0)).trans h.c0, (Below.cell hb (World.block_lt_of_cell? _ _ h.c1)).trans h.c1, (Below.cell hb (World.block_lt_of_cell? _ _ h.c2)).trans h.c2, (Below.cell hb (World.block_lt_of_cell? _ _ h.c3)).trans h.c3, (Below.cell hb (World.block_lt_of_cell? _ _ h.c4)).trans h.c4, h.w1, h.w2, h.src.below hb⟩
def IsOpsN (w : World) (a : Option Addr) (len : Nat) (os : List OpN) : Prop :=
  os.length = len ∧ len ≤ maxLen ∧ (a = none → len = 0) ∧ ∀ x, a = some x → ∀ i o, os[i]? = some o → OpNAt w x i o
section
variable {H : Type} {enc : TypeId × Value → H} {W : World}
set_option maxHeartbeats 2000000 in
theorem isOpsN_of {a : Option Addr} {len cap : Nat} {d : DataW H} {p : List MemPlace} {f0 f1 f2 f3 f4 : Field} {tb : TypeId}
    (he : Try.prog.underlying 30 = some (.struct #[f0, f1, f2, f3, f4])) (o0 : f0.offset = 0) (o1 : f1.offset = 1) (o2 : f2.offset = 2) (o3 : f3.offset = 3) (o4 : f4.offset = 4)
    (c0 : Try.prog.cellsOf f0.type = 1) (c1 : Try.prog.cellsOf f1.type = 1) (c2 : Try.prog.cellsOf f2.type = 1) (c3 : Try.prog.cellsOf f3.type = 1) (c4 : Try.prog.cellsOf f4.type = 1)
    (h0 : Try.prog.underlying f0.type = some (.int .i64)) (h1 : Try.prog.underlying f1.type = some (.int .i64)) (h2 : Try.prog.underlying f2.type = some (.int .i64)) (e3 : f3.type = 28) (h4 : Try.prog.underlying f4.type = some (.int .u8))
    (h : DataW.Trod enc Try.prog W 0 (fun _ => true) true 22 (.slice a len cap) d p) : ∃ os, IsOpsN W a len os := by
  obtain ⟨fuel, hf⟩ := h
  have hf' : DataW.trod enc Try.prog W 0 (fun _ => true) true fuel 22 [.slice a len cap] = some (d, p) := by simpa [Value.cells] using hf
  rcases Deep.open_slice Try.underlying22 hf' with ⟨hcs, _⟩ | ⟨x, l, c, m, n, D, Pl, hcs, _, hl, hm, hmm, _, hcell⟩
  · simp at hcs
    obtain ⟨rfl, rfl, rfl⟩ := hcs
    exact ⟨[], rfl, Nat.zero_le _, fun _ => rfl, (fun x e => by cases e)⟩
  · simp at hcs
    obtain ⟨rfl, rfl, rfl⟩ := hcs
    have ce : Try.prog.cellsOf 30 = 5 := by kernel_rfl
    have each : ∀ i, i < len → ∃ q : OpN, OpNAt W x i q := by
      intro i hi
      obtain ⟨cs', k1, k2⟩ := hcell i (by rw [hmm]; simp; omega)
      rw [ce] at k1
      obtain ⟨_, hlen, hc⟩ := World.cells?_some k1
      obtain ⟨xs, n', _, _, _, hxl, hfs⟩ := DataW.trod_struct he k2
      match cs', hlen, xs, hxl with
      | [v0, v1, v2, v3, v4], _, [y0, y1, y2, y3, y4], _ =>
        have t0 := hfs 0 f0 rfl
        have t1 := hfs 1 f1 rfl
        have t2 := hfs 2 f2 rfl
        have t3 := hfs 3 f3 rfl
        have t4 := hfs 4 f4 rfl
        simp [o0, o1, o2, o3, o4, c0, c1, c2, c3, c4] at t0 t1 t2 t3 t4
        obtain ⟨s0, e0, _, w0⟩ := DataW.trod_int h0 t0
        obtain ⟨s1, e1, _, w1⟩ := DataW.trod_int h1 t1
        obtain ⟨s2, e2, _, w2⟩ := DataW.trod_int h2 t2
        obtain ⟨s4, e4', _, w4⟩ := DataW.trod_int h4 t4
        rw [e3] at t3
        obtain ⟨b, hb, sb⟩ := bytes_of_trod rfl t3
        simp at hb
        simp at e0 e1 e2 e4'
        subst e0 e1 e2 e4'
        subst hb
        have hb8 := bounds_u8 w4
        have z0 := hc 0 (by omega)
        have z1 := hc 1 (by omega)
        have z2 := hc 2 (by omega)
        have z3 := hc 3 (by omega)
        have z4 := hc 4 (by omega)
        rw [addr_add2] at z0 z1 z2 z3 z4
        exact ⟨⟨s0, s1, s2, b.a, b.n, b.c, b.bs, UInt8.ofNat s4.toNat⟩, by simpa using z0, by simpa using z1, by simpa using z2, by simpa [BsV.v] using z3, by
          have e : ((UInt8.ofNat s4.toNat).toNat : Int) = s4 := by rw [UInt8.toNat_ofNat']; omega
          show _ = some (Value.int .u8 ((UInt8.ofNat s4.toNat).toNat : Int))
          rw [e]
          simpa using z4, w1, w2, sb⟩
    haveI : Inhabited OpN := ⟨⟨0, 0, 0, none, 0, 0, [], 0⟩⟩
    obtain ⟨q, hq⟩ := Deep.choose_lt each
    have hlen : ((List.range len).map q).length = len := by simp
    refine ⟨(List.range len).map q, hlen, by omega, (fun e => by cases e), fun y hy i o ho => ?_⟩
    cases hy
    have hi := (List.getElem?_eq_some_iff.1 ho).1
    rw [hlen] at hi
    simp [hi] at ho
    subst ho
    exact hq i hi
end
end Go.Proofs.Ytcemecclpofhbaa

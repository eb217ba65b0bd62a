/- What the walks are told of arguments that came in: slices of bools; slices of disk's operations, each with bytes and bools of its own. Own lemmas, no statement. -/
import Derived.Test.YtpojpmkflgmgkaaDisk6
import Derived.Test.YtpojpmkflgmgkaaSrcSeg
import Derived.Deep.Grids
namespace Go.Proofs.Ytpojpmkflgmgkaa
open Go.ChangeShapes Go.WideShapes Go.ChangeAt Go.RowKit

theorem bools_of_trod {H : Type} {enc : TypeId × Value → H} {P : Program} {W : World} {t e : TypeId} {fuel : Nat} {v : Value} {x : DataW H × List MemPlace} {base : Nat}
    (ht : P.underlying t = some (.slice e)) (he : P.underlying e = some .bool) (hc : P.cellsOf e = 1)
    (h : DataW.trod enc P W base (fun _ => true) true fuel t [v] = some x) : ∃ ao n c l, v = .slice ao n c ∧ Bools W ao n l ∧ n ≤ c ∧ c ≤ maxLen := by
  rcases Deep.open_bools ht he hc h with ⟨hcs, _⟩ | ⟨a, len, cap, B, hcs, _, hl, hm, _, hcell⟩
  · simp at hcs
    subst hcs
    exact ⟨none, 0, 0, [], rfl, ⟨rfl, fun _ => rfl, fun ad e => by cases e⟩, Nat.le_refl _, Nat.zero_le _⟩
  · simp at hcs
    subst hcs
    refine ⟨some a, len, cap, (List.range len).map B, rfl, ⟨by simp, fun e => (by cases e), fun ad e j b hb => ?_⟩, hl, hm⟩
    cases e
    have hj : j < len := by have := (List.getElem?_eq_some_iff.1 hb).1; simpa using this
    rw [List.getElem?_map, List.getElem?_range hj] at hb
    simp at hb
    rw [hcell j (by omega), hb]
theorem Bools.lt {w : World} {ao : Option Addr} {n : Nat} {l : List Bool} {ad : Addr} (h : Bools w ao n l) (e : ao = some ad) (hn : 0 < n) : ad.block < w.heap.size := by
  obtain ⟨h1, _, h3⟩ := h
  have h0 : 0 < l.length := by omega
  have := cell_lt (h3 ad e 0 l[0] (List.getElem?_eq_getElem h0))
  unfold Addr.add at this
  simpa using this
theorem isBools_of {H : Type} {enc : TypeId × Value → H} {P : Program} {W : World} {t e : TypeId} {a : Option Addr} {len cap : Nat} {d : DataW H} {p : List MemPlace}
    (ht : P.underlying t = some (.slice e)) (he : P.underlying e = some .bool) (hc : P.cellsOf e = 1)
    (h : DataW.Trod enc P W 0 (fun _ => true) true t (.slice a len cap) d p) : ∃ l, Bools W a len l ∧ len ≤ maxLen := by
  obtain ⟨fuel, hf⟩ := h
  obtain ⟨ao, n, c, l, e1, e2, e3, e4⟩ := bools_of_trod ht he hc (v := .slice a len cap) hf
  simp only [Value.slice.injEq] at e1
  obtain ⟨rfl, rfl, rfl⟩ := e1
  exact ⟨l, e2, by omega⟩
theorem bytes_of_trod {H : Type} {enc : TypeId × Value → H} {P : Program} {W : World} {t e : TypeId} {fuel : Nat} {v : Value} {x : DataW H × List MemPlace} {base : Nat}
    (ht : P.underlying t = some (.slice e)) (he : P.underlying e = some (.int .u8)) (hc : P.cellsOf e = 1)
    (h : DataW.trod enc P W base (fun _ => true) true fuel t [v] = some x) : ∃ ao n c l, v = .slice ao n c ∧ Src W (.slice ao n c) l ∧ l.length = n ∧ n ≤ c ∧ c ≤ maxLen := by
  rcases open_ints ht he hc h with ⟨hcs, _⟩ | ⟨a, len, cap, zs, hcs, _, hl, hm, hz, _, hcell, hwz⟩
  · simp at hcs
    subst hcs
    exact ⟨none, 0, 0, [], rfl, Src.nil _, rfl, Nat.le_refl _, Nat.zero_le _⟩
  · simp at hcs
    subst hcs
    obtain ⟨l, h1, h2⟩ := isRow_src (w := W) (a := some a) (len := len) (cap := cap) (zs := zs) (.inr ⟨a, rfl, hl, hm, by simpa using hz, hcell, hwz⟩)
    exact ⟨some a, len, cap, l, rfl, h1, h2, hl, hm⟩

theorem addr_add2 (a : Addr) (i j : Nat) : (a.add i).add j = a.add (i + j) := by
  unfold Addr.add
  by_cases hi : i = 0 <;> by_cases hj : j = 0 <;> simp [hi, hj, Nat.add_assoc]

structure OpV where
  k : Int
  at_ : Int
  bo : Option Addr
  bn : Nat
  bc : Nat
  bl : List UInt8
  ko : Option Addr
  kn : Nat
  kc : Nat
  kl : List Bool
  tear : Int

/-- An operation lies at an address. -/
structure OpAt (w : World) (x : Addr) (i : Nat) (o : OpV) : Prop where
  c0 : w.cell? (x.add (i * 5)) = some (.int .i64 o.k)
  c1 : w.cell? (x.add (i * 5 + 1)) = some (.int .i64 o.at_)
  c2 : w.cell? (x.add (i * 5 + 2)) = some (.slice o.bo o.bn o.bc)
  c3 : w.cell? (x.add (i * 5 + 3)) = some (.slice o.ko o.kn o.kc)
  c4 : w.cell? (x.add (i * 5 + 4)) = some (.int .i64 o.tear)
  w0 : (Lit.int .i64 o.k).wf = true
  w1 : (Lit.int .i64 o.at_).wf = true
  w4 : (Lit.int .i64 o.tear).wf = true
  src : Src w (.slice o.bo o.bn o.bc) o.bl
  len : o.bl.length = o.bn
  bn : o.bn ≤ o.bc
  bc : o.bc ≤ maxLen
  bools : Bools w o.ko o.kn o.kl
  kn : o.kn ≤ o.kc
  kc : o.kc ≤ maxLen

def IsOps4 (w : World) (a : Option Addr) (len : Nat) (os : List OpV) : Prop :=
  os.length = len ∧ len ≤ maxLen ∧ (a = none → len = 0) ∧ ∀ x, a = some x → ∀ i (h : i < os.length), OpAt w x i os[i]

theorem isOps4_of {H : Type} {enc : TypeId × Value → H} {P : Program} {W : World} {t e : TypeId} {f0 f1 f2 f3 f4 : Field} {tb tk eb ek : TypeId} {a : Option Addr} {len cap : Nat} {d : DataW H} {p : List MemPlace}
    (ht : P.underlying t = some (.slice e)) (he : P.underlying e = some (.struct #[f0, f1, f2, f3, f4])) (ce : P.cellsOf e = 5) (o0 : f0.offset = 0) (o1 : f1.offset = 1) (o2 : f2.offset = 2) (o3 : f3.offset = 3) (o4 : f4.offset = 4)
    (c0 : P.cellsOf f0.type = 1) (c1 : P.cellsOf f1.type = 1) (c2 : P.cellsOf f2.type = 1) (c3 : P.cellsOf f3.type = 1) (c4 : P.cellsOf f4.type = 1)
    (h0 : P.underlying f0.type = some (.int .i64)) (h1 : P.underlying f1.type = some (.int .i64)) (e2 : f2.type = tb) (h2 : P.underlying tb = some (.slice eb)) (e3 : f3.type = tk) (h3 : P.underlying tk = some (.slice ek)) (h4 : P.underlying f4.type = some (.int .i64))
    (hb : P.underlying eb = some (.int .u8)) (hbc : P.cellsOf eb = 1) (hk : P.underlying ek = some .bool) (hkc : P.cellsOf ek = 1)
    (h : DataW.Trod enc P W 0 (fun _ => true) true t (.slice a len cap) d p) : ∃ os, IsOps4 W a len os := by
  obtain ⟨fuel, hf⟩ := h
  rcases Deep.open_slice ht hf with ⟨hcs, _⟩ | ⟨x, l, c, m, n, D, Pl, hcs, _, hl, hm, hmm, _, hcell⟩
  · simp [Value.cells] at hcs
    obtain ⟨rfl, rfl, rfl⟩ := hcs
    exact ⟨[], rfl, Nat.zero_le _, fun _ => rfl, fun x h => by cases h⟩
  · simp [Value.cells] at hcs
    obtain ⟨rfl, rfl, rfl⟩ := hcs
    have each : ∀ i, i < len → ∃ q : OpV, OpAt W x i q := by
      intro i hi
      obtain ⟨cs', k1, k2⟩ := hcell i (by rw [hmm]; simp; omega)
      rw [ce] at k1
      obtain ⟨_, hlen, hc⟩ := World.cells?_some k1
      obtain ⟨xs, n', _, _, _, hxl, hfs⟩ := DataW.trod_struct he k2
      match cs', hlen, xs, hxl with
      | [v0, v1, v2, v3, v4], _, [y0, y1, y2, y3, y4], _ =>
        have t0 := hfs 0 f0 rfl
        have t1 := hfs 1 f1 rfl
        have t2 := hfs 2 f2 rfl
        have t3 := hfs 3 f3 rfl
        have t4 := hfs 4 f4 rfl
        simp [o0, o1, o2, o3, o4, c0, c1, c2, c3, c4] at t0 t1 t2 t3 t4
        obtain ⟨s0, e0, _, w0⟩ := DataW.trod_int h0 t0
        obtain ⟨s1, e1, _, w1⟩ := DataW.trod_int h1 t1
        obtain ⟨s4, e4', _, w4⟩ := DataW.trod_int h4 t4
        rw [e2] at t2
        rw [e3] at t3
        obtain ⟨bo, bn, bc, bl, rfl, sb, sl, sn, sc⟩ := bytes_of_trod h2 hb hbc t2
        obtain ⟨ko, kn, kc, kl, rfl, kb, kn', kc'⟩ := bools_of_trod h3 hk hkc t3
        simp at e0 e1 e4'
        subst e0 e1 e4'
        have z0 := hc 0 (by omega)
        have z1 := hc 1 (by omega)
        have z2 := hc 2 (by omega)
        have z3 := hc 3 (by omega)
        have z4 := hc 4 (by omega)
        rw [addr_add2] at z0 z1 z2 z3 z4
        exact ⟨⟨s0, s1, bo, bn, bc, bl, ko, kn, kc, kl, s4⟩, by simpa using z0, by simpa using z1, by simpa using z2, by simpa using z3, by simpa using z4, w0, w1, w4, sb, sl, sn, sc, kb, kn', kc'⟩
    haveI : Inhabited OpV := ⟨⟨0, 0, none, 0, 0, [], none, 0, 0, [], 0⟩⟩
    obtain ⟨q, hq⟩ := Deep.choose_lt each
    refine ⟨(List.range len).map q, by simp, by omega, fun h => (by cases h), fun y hy i hi => ?_⟩
    cases hy
    simp at hi
    simp only [List.getElem_map, List.getElem_range]
    exact hq i hi
/-- An operation is there still where nothing old has turned. -/
theorem OpAt.below {w w' : World} {x : Addr} {i : Nat} {o : OpV} (h : OpAt w x i o) (hb : Below w.heap.size w w') : OpAt w' x i o :=
  ⟨(Below.cell hb (cell_lt h.c0)).trans h.c0, (Below.cell hb (cell_lt h.c1)).trans h.c1, (Below.cell hb (cell_lt h.c2)).trans h.c2, (Below.cell hb (cell_lt h.c3)).trans h.c3, (Below.cell hb (cell_lt h.c4)).trans h.c4,
    h.w0, h.w1, h.w4, h.src.below hb, h.len, h.bn, h.bc, h.bools.below hb, h.kn, h.kc⟩
end Go.Proofs.Ytpojpmkflgmgkaa

import Derived.Test.YtbgofajldkblmaaGreatSrc
import Derived.Test.YtbgofajldkblmaaGreatSeg
import Derived.Test.YtbgofajldkblmaaGreatBlk
import Derived.Test.YtbgofajldkblmaaGreatRecQ
import Derived.Test.YtbgofajldkblmaaGreatPg2
import Derived.Test.YtbgofajldkblmaaGreatRec12
import Derived.Test.YtbgofajldkblmaaGreatG1
/- Bytes that came in; as texts, in a class of worlds; pieces of a row of bytes. Own lemmas, no statement. -/
namespace Go.Proofs.YtbgofajldkblmaaGreat
open Go.ChangeShapes Go.WideShapes Go.ChangeAt Go.RowKit

/-- The first bytes of a row that is known whole. -/
theorem Blk.src {w : World} {b k c : Nat} {l : List UInt8} (h : Blk w b (bv l).toArray 5) (hk : k ≤ l.length) (hc : k ≤ c) (hm : c ≤ maxLen) : Src w (.slice (some ⟨b, 0, none⟩) k c) (l.take k) := by
  have hl : (l.take k).length = k := by simp; omega
  refine ⟨some ⟨b, 0, none⟩, c, by rw [hl], by omega, hm, fun e => (by cases e), fun ad e j u hu => ?_⟩
  cases e
  rw [Addr.add_mid, Nat.zero_add, h.cell, List.getElem?_toArray]
  unfold bv at hu ⊢
  rw [List.map_take, List.getElem?_take] at hu
  split at hu
  · exact hu
  · cases hu
end Go.Proofs.YtbgofajldkblmaaGreat
/- rec: Encode, of any record. Own lemmas, no statement. -/
set_option linter.unusedSimpArgs false
set_option linter.unusedVariables false
namespace Go.Proofs.YtbgofajldkblmaaGreat
open Go.ChangeShapes Go.WideShapes Go.ChangeAt Go.RowKit

/-- What Encode hands back, of any record. -/
def EncQ (x : RecV) (w : World) (e : Ending) (w' : World) : Prop :=
  ((rightRec x = true ∧ (recBytes x).length ≤ 16384 ∧ ∃ ao c, e = .returned (.tuple #[.slice ao (recBytes x).length c, .int .i64 0]) ∧ Src w' (.slice ao (recBytes x).length c) (recBytes x)) ∨
   (∃ er : Int, e = .returned (.tuple #[.slice none 0 0, .int .i64 er]) ∧ ((rightRec x = true ∧ 16384 < (recBytes x).length ∧ er = 3) ∨ (rightRec x = false ∧ er = 1)))) ∧ Below w.heap.size w w'
theorem encQ_any (x : RecV) (w : World) (h : x.At w) (hw : x.Wf) : Calls Tryz.prog 8 #[.agg #[.int .i64 x.kind, .int .u64 x.num, .int .i64 x.node, .string x.key, .bool x.was, .string x.old, .int .u64 x.prev, .slice x.na x.nn x.nc, .slice x.ra x.rn x.rc, .slice x.ga x.gn x.gc, .slice x.oa x.om x.oc, .slice x.da x.dn x.dc]] w (EncQ x w) := by
  cases hr : rightRec x with
  | false =>
    refine (recEncode_bad x w h hr).mono ?_
    rintro e w' ⟨rfl, y⟩
    exact ⟨.inr ⟨1, rfl, .inr ⟨hr, rfl⟩⟩, y⟩
  | true =>
    refine (recEncode_ok x w h hw hr).mono ?_
    rintro e w' ⟨⟨v, er, rfl, hv⟩, y⟩
    by_cases hl : (recBytes x).length > 16384
    · rw [if_pos hl] at hv
      obtain ⟨rfl, rfl⟩ := hv
      exact ⟨.inr ⟨3, rfl, .inl ⟨hr, hl, rfl⟩⟩, y⟩
    · rw [if_neg hl] at hv
      obtain ⟨ho, rfl⟩ := hv
      have hs := ho.src
      obtain ⟨ao, c, rfl⟩ := hs.form
      exact ⟨.inl ⟨hr, by omega, ao, c, rfl, hs⟩, y⟩
end Go.Proofs.YtbgofajldkblmaaGreat
/- What the walks are told of a page that came in. Own lemmas, no statement. -/
namespace Go.Proofs.YtbgofajldkblmaaGreat
open Go.ChangeShapes Go.WideShapes Go.ChangeAt Go.RowKit

theorem strs_of_trod {H : Type} {enc : TypeId × Value → H} {P : Program} {W : World} {t e : TypeId} {fuel : Nat} {v : Value} {x : DataW H × List MemPlace} {base : Nat}
    (ht : P.underlying t = some (.slice e)) (he : P.underlying e = some .string) (hc : P.cellsOf e = 1)
    (h : DataW.trod enc P W base (fun _ => true) true fuel t [v] = some x) : ∃ ss, Rd W v (sv ss) ∧ (∀ s ∈ ss, s.size ≤ maxLen) ∧ ∀ s ∈ ss, s.size ∈ x.1.weights P t := by
  rcases Deep.open_strs ht he hc h with ⟨hcs, _⟩ | ⟨a, l, c, m, S, hcs, _, hl, hm, hmm, hx, hcell⟩
  · simp at hcs
    subst hcs
    exact ⟨[], Rd.nil _, fun s hs => (by cases hs), fun s hs => by cases hs⟩
  · simp at hcs
    subst hcs
    have hlen : ((List.range l).map S).length = l := by simp
    refine ⟨(List.range l).map S, ⟨some a, c, by rw [sv_length, hlen], by rw [sv_length, hlen]; exact hl, hm, fun e => (by cases e), fun ad e j u hu => ?_⟩, fun s hs => ?_, fun s hs => ?_⟩
    · cases e
      have hj : j < l := by have := (List.getElem?_eq_some_iff.1 hu).1; rw [sv_length, hlen] at this; exact this
      rw [(hcell j (by rw [hmm]; simp; omega)).1, ← hu]
      simp [sv, hj]
    · obtain ⟨i, hi, rfl⟩ := List.mem_map.1 hs
      have hi' : i < l := by simpa using hi
      exact (hcell i (by rw [hmm]; simp; omega)).2
    · obtain ⟨i, hi, rfl⟩ := List.mem_map.1 hs
      rw [hx]
      simp only [DataW.weights, ht, List.mem_cons, List.mem_append]
      refine .inr (.inl (weightsAll_mem (d := .lit (.string (S i).data.toList)) (List.mem_map.2 ⟨i, hi, rfl⟩) ?_))
      have h2 : (S i).data.toList.length = (S i).size := by rw [Array.length_toList]; rfl
      simp [DataW.weights, h2]

theorem nums_of_trod {H : Type} {enc : TypeId × Value → H} {P : Program} {W : World} {t e : TypeId} {fuel : Nat} {v : Value} {x : DataW H × List MemPlace} {base : Nat}
    (ht : P.underlying t = some (.slice e)) (he : P.underlying e = some (.int .i64)) (hc : P.cellsOf e = 1)
    (h : DataW.trod enc P W base (fun _ => true) true fuel t [v] = some x) : ∃ ns, Rd W v (iv ns) ∧ ∀ n ∈ ns, -9223372036854775808 ≤ n ∧ n < 9223372036854775808 := by
  rcases open_ints ht he hc h with ⟨hcs, _⟩ | ⟨a, len, cap, zs, hcs, _, hl, hm, hz, _, hcell, hwz⟩
  · simp at hcs
    subst hcs
    exact ⟨[], Rd.nil _, fun s hs => by cases hs⟩
  · simp at hcs
    subst hcs
    have hz' : zs.length = cap := by simpa using hz
    have hlen : (zs.take len).length = len := by simp; omega
    refine ⟨zs.take len, ⟨some a, cap, by rw [iv_length, hlen], by rw [iv_length, hlen]; exact hl, hm, fun e => (by cases e), fun ad e j u hu => ?_⟩, fun n hn => ?_⟩
    · cases e
      have hj : j < len := by have := (List.getElem?_eq_some_iff.1 hu).1; rw [iv_length, hlen] at this; exact this
      rw [hcell j (by omega), ← hu]
      have hj2 : j < zs.length := by omega
      simp [iv, hj, hj2]
    · have := bounds_i64 (hwz n (List.mem_of_mem_take hn))
      omega

end Go.Proofs.YtbgofajldkblmaaGreat
/- What the walks are told of a record that came in. Own lemmas, no statement. -/
set_option linter.unusedSimpArgs false
set_option linter.unusedVariables false
namespace Go.Proofs.YtbgofajldkblmaaGreat
open Go.ChangeShapes Go.WideShapes Go.ChangeAt Go.RowKit

section
variable {H : Type} {enc : TypeId × Value → H} {W : World}
theorem addr_addR (a : Addr) (i j : Nat) : (a.add i).add j = a.add (i + j) := by
  unfold Addr.add
  by_cases hi : i = 0 <;> by_cases hj : j = 0 <;> simp [hi, hj, Nat.add_assoc]
theorem rows_of_trod {α : Type} {P : Program} {t e : TypeId} {k fuel : Nat} {v : Value} {x : DataW H × List MemPlace} {cs : α → List Value} {Ok : α → Prop} (dflt : α) (ht : P.underlying t = some (.slice e)) (ce : P.cellsOf e = k)
    (each : ∀ fuel' (cs' : List Value) y, cs'.length = k → DataW.trod enc P W 0 (fun _ => true) true fuel' e cs' = some y → ∃ q : α, cs' = cs q ∧ Ok q)
    (h : DataW.trod enc P W 0 (fun _ => true) true fuel t [v] = some x) : ∃ l, RowsN W k cs v l ∧ ∀ x ∈ l, Ok x := by
  rcases Deep.open_slice ht h with ⟨hcs, _⟩ | ⟨a, len, cap, m, n, D, Pl, hcs, _, hl, hm, hmm, _, hcell⟩
  · simp at hcs
    subst hcs
    exact ⟨[], RowsN.nil _ _ _, fun x hx => by cases hx⟩
  · simp at hcs
    subst hcs
    have ev : ∀ i, i < len → ∃ q : α, (∀ j u, (cs q)[j]? = some u → W.cell? (a.add (i * k + j)) = some u) ∧ Ok q := by
      intro i hi
      obtain ⟨cs', k1', k2⟩ := hcell i (by rw [hmm]; simp; omega)
      rw [ce] at k1'
      obtain ⟨_, hlen, hc⟩ := World.cells?_some k1'
      obtain ⟨q, rfl, hq⟩ := each n cs' _ hlen k2
      refine ⟨q, fun j u hu => ?_, hq⟩
      have hj := (List.getElem?_eq_some_iff.1 hu).1
      have := hc j (by omega)
      rw [addr_addR] at this
      rw [this]
      exact hu
    haveI : Inhabited α := ⟨dflt⟩
    obtain ⟨q, hq⟩ := Deep.choose_lt ev
    have hlen : ((List.range len).map q).length = len := by simp
    refine ⟨(List.range len).map q, ⟨some a, cap, by rw [hlen], by rw [hlen]; exact hl, hm, fun e => (by cases e), fun ad had i x hx j u hu => ?_⟩, fun x hx => ?_⟩
    · cases had
      have hi := (List.getElem?_eq_some_iff.1 hx).1
      rw [hlen] at hi
      simp [hi] at hx
      subst hx
      exact (hq i hi).1 j u hu
    · obtain ⟨i, hi, rfl⟩ := List.mem_map.1 hx
      exact (hq i (by simpa using hi)).2
set_option maxRecDepth 100000 in
set_option maxHeartbeats 1000000 in
theorem tid_of_trodR {fuel : Nat} {cs : List Value} {x : DataW H × List MemPlace} (hl : cs.length = 2) (h : DataW.trod enc Tryz.prog W 0 (fun _ => true) true fuel 24 cs = some x) :
    ∃ a b : Int, cs = [.int .u64 a, .int .i64 b] ∧ (0 ≤ a ∧ a < 18446744073709551616) ∧ (-9223372036854775808 ≤ b ∧ b < 9223372036854775808) := by
  have hs := Tryz.underlying24
  have cU : Tryz.prog.cellsOf 22 = 1 := by kernel_rfl
  have cI : Tryz.prog.cellsOf 3 = 1 := by kernel_rfl
  obtain ⟨xs, n', _, _, _, hxl, hfs⟩ := DataW.trod_struct hs h
  match cs, hl, xs, hxl with
  | [v0, v1], _, [y0, y1], _ =>
    have t0 := hfs 0 _ rfl
    have t1 := hfs 1 _ rfl
    simp [cU, cI] at t0 t1
    obtain ⟨s0, e0, _, w0⟩ := DataW.trod_int Tryz.underlying22 t0
    obtain ⟨s1, e1, _, w1⟩ := DataW.trod_int Tryz.underlying3 t1
    simp at e0 e1
    subst e0 e1
    have b0 := bounds_u64 w0
    have b1 := bounds_i64 w1
    exact ⟨s0, s1, rfl, by omega, by omega⟩
set_option maxRecDepth 100000 in
set_option maxHeartbeats 1000000 in
theorem page_of_trod {fuel : Nat} {cs : List Value} {x : DataW H × List MemPlace} (hl : cs.length = 8) (h : DataW.trod enc Tryz.prog W 0 (fun _ => true) true fuel 47 cs = some x) :
    ∃ (q : Pg) (kv vv dv : Value), cs = (pgc q kv vv dv).toList ∧ PgAt W q kv vv dv ∧ q.Ok := by
  have hs := Tryz.underlying47
  obtain ⟨xs, n, _, _, _, hxl, hfs⟩ := DataW.trod_struct hs h
  match cs, hl, xs, hxl, hfs with
  | [v0, v1, v2, v3, v4, v5, v6, v7], _, [y0, y1, y2, y3, y4, y5, y6, y7], _, hfs =>
    have cI : Tryz.prog.cellsOf 3 = 1 := by kernel_rfl
    have cS : Tryz.prog.cellsOf 26 = 1 := by kernel_rfl
    have cN : Tryz.prog.cellsOf 25 = 1 := by kernel_rfl
    have cT : Tryz.prog.cellsOf 9 = 1 := by kernel_rfl
    have t0 := hfs 0 _ rfl
    have t1 := hfs 1 _ rfl
    have t2 := hfs 2 _ rfl
    have t3 := hfs 3 _ rfl
    have t4 := hfs 4 _ rfl
    have t5 := hfs 5 _ rfl
    have t6 := hfs 6 _ rfl
    have t7 := hfs 7 _ rfl
    simp [cI, cS, cN] at t0 t1 t2 t3 t4 t5 t6 t7
    obtain ⟨s0, e0, _, w0⟩ := DataW.trod_int Tryz.underlying3 t0
    obtain ⟨ks, k1, k2, k3⟩ := strs_of_trod Tryz.underlying26 Tryz.underlying9 cT t1
    obtain ⟨vs, l1, l2, _⟩ := strs_of_trod Tryz.underlying26 Tryz.underlying9 cT t2
    obtain ⟨ns, m1, m2⟩ := nums_of_trod Tryz.underlying25 Tryz.underlying3 cI t3
    obtain ⟨s4, e4, _, w4⟩ := DataW.trod_int Tryz.underlying3 t4
    obtain ⟨s5, e5, _, w5⟩ := DataW.trod_int Tryz.underlying3 t5
    obtain ⟨s6, e6, _, w6⟩ := DataW.trod_int Tryz.underlying3 t6
    obtain ⟨s7, e7, _, w7⟩ := DataW.trod_int Tryz.underlying3 t7
    simp at e0 e4 e5 e6 e7
    subst e0 e4 e5 e6 e7
    have b0 := bounds_i64 w0
    have b4 := bounds_i64 w4
    have b5 := bounds_i64 w5
    have b6 := bounds_i64 w6
    have b7 := bounds_i64 w7
    exact ⟨⟨s0, ks, vs, ns, s4, s5, s6, s7⟩, v1, v2, v3, rfl, ⟨k1, l1, m1⟩, ⟨k2, l2, m2, by simp only; omega, by simp only; omega, by simp only; omega, by simp only; omega, by simp only; omega⟩⟩
/-- What is said of each open one, each decided one, each turned page that came in. -/
def OpenOk (W : World) (x : OpenV) : Prop := x.At W ∧ (0 ≤ x.num ∧ x.num < 18446744073709551616) ∧ (0 ≤ x.last ∧ x.last < 18446744073709551616) ∧ (0 ≤ x.first ∧ x.first < 18446744073709551616)
def DoneOk (W : World) (x : DoneV) : Prop := x.At W ∧ 0 ≤ x.num ∧ x.num < 18446744073709551616
set_option maxRecDepth 100000 in
set_option maxHeartbeats 1000000 in
theorem chg_of_trod {fuel : Nat} {cs : List Value} {x : DataW H × List MemPlace} (hl : cs.length = 9) (h : DataW.trod enc Tryz.prog W 0 (fun _ => true) true fuel 49 cs = some x) : ∃ q : ChgV, cs = q.c ∧ q.At W := by
  have hs := Tryz.underlying49
  obtain ⟨xs, n, _, _, _, hxl, hfs⟩ := DataW.trod_struct hs h
  match cs, hl, xs, hxl, hfs with
  | [v0, v1, v2, v3, v4, v5, v6, v7, v8], _, [y0, y1], _, hfs =>
    have cI : Tryz.prog.cellsOf 3 = 1 := by kernel_rfl
    have cP : Tryz.prog.cellsOf 47 = 8 := by kernel_rfl
    have t0 := hfs 0 _ rfl
    have t1 := hfs 1 _ rfl
    simp [cI, cP] at t0 t1
    obtain ⟨s0, e0, _, w0⟩ := DataW.trod_int Tryz.underlying3 t0
    obtain ⟨q, kv, vv, dv, he, hp, hok⟩ := page_of_trod rfl t1
    obtain ⟨ka, kc, va, vc, da, dc, rfl, rfl, rfl, _, _, _⟩ := hp.forms
    simp at e0
    subst e0
    simp only [pgc, List.cons.injEq, and_true] at he
    obtain ⟨rfl, rfl, rfl, rfl, rfl, rfl, rfl, rfl⟩ := he
    exact ⟨⟨s0, q, ka, _, kc, va, _, vc, da, _, dc⟩, rfl, ⟨hp, hok⟩⟩
set_option maxRecDepth 100000 in
set_option maxHeartbeats 1000000 in
theorem open_of_trod {fuel : Nat} {cs : List Value} {x : DataW H × List MemPlace} (hl : cs.length = 7) (h : DataW.trod enc Tryz.prog W 0 (fun _ => true) true fuel 45 cs = some x) : ∃ q : OpenV, cs = q.c ∧ OpenOk W q := by
  have hs := Tryz.underlying45
  obtain ⟨xs, n, _, _, _, hxl, hfs⟩ := DataW.trod_struct hs h
  match cs, hl, xs, hxl, hfs with
  | [v0, v1, v2, v3, v4, v5, v6], _, [y0, y1, y2, y3, y4, y5], _, hfs =>
    have cI : Tryz.prog.cellsOf 3 = 1 := by kernel_rfl
    have cU : Tryz.prog.cellsOf 22 = 1 := by kernel_rfl
    have cB : Tryz.prog.cellsOf 4 = 1 := by kernel_rfl
    have cT : Tryz.prog.cellsOf 9 = 1 := by kernel_rfl
    have cS : Tryz.prog.cellsOf 26 = 1 := by kernel_rfl
    have cD : Tryz.prog.cellsOf 24 = 2 := by kernel_rfl
    have t0 := hfs 0 _ rfl
    have t1 := hfs 1 _ rfl
    have t2 := hfs 2 _ rfl
    have t3 := hfs 3 _ rfl
    have t4 := hfs 4 _ rfl
    have t5 := hfs 5 _ rfl
    simp [cI, cU, cB, cS, cD] at t0 t1 t2 t3 t4 t5
    obtain ⟨s0, s1, e0, w0, w1⟩ := tid_of_trodR rfl t0
    obtain ⟨s2, e2, _, w2⟩ := DataW.trod_int Tryz.underlying22 t1
    obtain ⟨s3, e3, _, w3⟩ := DataW.trod_int Tryz.underlying22 t2
    obtain ⟨s4, e4, _, w4⟩ := DataW.trod_int Tryz.underlying3 t3
    obtain ⟨s5, e5, _⟩ := DataW.trod_bool Tryz.underlying4 t4
    obtain ⟨ks, k1, k2, _⟩ := strs_of_trod Tryz.underlying26 Tryz.underlying9 cT t5
    simp at e0 e2 e3 e4 e5
    obtain ⟨rfl, rfl⟩ := e0
    subst e2 e3 e4 e5
    obtain ⟨a, c, rfl⟩ := k1.form
    have b2 := bounds_u64 w2
    have b3 := bounds_u64 w3
    exact ⟨⟨s0, s1, s2, s3, s4, s5, a, _, c, ks⟩, rfl, ⟨k1, k2⟩, w0, by simp only; omega, by simp only; omega⟩
set_option maxRecDepth 100000 in
set_option maxHeartbeats 1000000 in
theorem done_of_trod {fuel : Nat} {cs : List Value} {x : DataW H × List MemPlace} (hl : cs.length = 3) (h : DataW.trod enc Tryz.prog W 0 (fun _ => true) true fuel 51 cs = some x) : ∃ q : DoneV, cs = q.c ∧ DoneOk W q := by
  have hs := Tryz.underlying51
  obtain ⟨xs, n, _, _, _, hxl, hfs⟩ := DataW.trod_struct hs h
  match cs, hl, xs, hxl, hfs with
  | [v0, v1, v2], _, [y0, y1], _, hfs =>
    have cI : Tryz.prog.cellsOf 3 = 1 := by kernel_rfl
    have cN : Tryz.prog.cellsOf 25 = 1 := by kernel_rfl
    have cD : Tryz.prog.cellsOf 24 = 2 := by kernel_rfl
    have t0 := hfs 0 _ rfl
    have t1 := hfs 1 _ rfl
    simp [cI, cN, cD] at t0 t1
    obtain ⟨s0, s1, e0, w0, w1⟩ := tid_of_trodR rfl t0
    obtain ⟨ks, k1, k2⟩ := nums_of_trod Tryz.underlying25 Tryz.underlying3 cI t1
    simp at e0
    obtain ⟨rfl, rfl⟩ := e0
    obtain ⟨a, c, rfl⟩ := k1.form
    exact ⟨⟨s0, s1, a, _, c, ks⟩, rfl, ⟨k1⟩, w0⟩
/-- A record that came in. -/
def recVal (x : RecV) : Value := .agg #[.int .i64 x.kind, .int .u64 x.num, .int .i64 x.node, .string x.key, .bool x.was, .string x.old, .int .u64 x.prev, .slice x.na x.nn x.nc, .slice x.ra x.rn x.rc, .slice x.ga x.gn x.gc, .slice x.oa x.om x.oc, .slice x.da x.dn x.dc]
set_option maxRecDepth 100000 in
set_option maxHeartbeats 1000000 in
theorem rec_of {r : Reach} {b0 : Nat} {v : Value} {d : DataW H} {p : List MemPlace}
    (hv : Value.okWide Tryz.prog W r b0 31 v) (h : DataW.Trod enc Tryz.prog W 0 (fun _ => true) true 31 v d p) : ∃ x : RecV, v = recVal x ∧ x.At W ∧ x.Wf := by
  have hs := Tryz.underlying31
  obtain ⟨cs, rfl, hsz⟩ := okWide_struct hs hv
  have hC : Tryz.prog.cellsOf 31 = 12 := by kernel_rfl
  obtain ⟨fuel, hf⟩ := h
  obtain ⟨xs, n, _, hx, _, hxl, hfs⟩ := DataW.trod_struct hs hf
  have hsz8 : cs.size = 12 := hsz.trans hC
  obtain ⟨l⟩ := cs
  match l, hsz8, xs, hxl, hfs with
  | [v0, v1, v2, v3, v4, v5, v6, v7, v8, v9, v10, v11], _, [y0, y1, y2, y3, y4, y5, y6, y7, y8, y9, y10], _, hfs =>
    have cI : Tryz.prog.cellsOf 3 = 1 := by kernel_rfl
    have cU : Tryz.prog.cellsOf 22 = 1 := by kernel_rfl
    have cB : Tryz.prog.cellsOf 4 = 1 := by kernel_rfl
    have cT : Tryz.prog.cellsOf 9 = 1 := by kernel_rfl
    have cS : Tryz.prog.cellsOf 26 = 1 := by kernel_rfl
    have cN : Tryz.prog.cellsOf 25 = 1 := by kernel_rfl
    have cD : Tryz.prog.cellsOf 24 = 2 := by kernel_rfl
    have cG : Tryz.prog.cellsOf 27 = 1 := by kernel_rfl
    have cO : Tryz.prog.cellsOf 28 = 1 := by kernel_rfl
    have cE : Tryz.prog.cellsOf 29 = 1 := by kernel_rfl
    have t0 := hfs 0 _ rfl
    have t1 := hfs 1 _ rfl
    have t2 := hfs 2 _ rfl
    have t3 := hfs 3 _ rfl
    have t4 := hfs 4 _ rfl
    have t5 := hfs 5 _ rfl
    have t6 := hfs 6 _ rfl
    have t7 := hfs 7 _ rfl
    have t8 := hfs 8 _ rfl
    have t9 := hfs 9 _ rfl
    have t10 := hfs 10 _ rfl
    simp [Value.cells, cI, cU, cB, cT, cS, cN, cD, cG, cO, cE] at t0 t1 t2 t3 t4 t5 t6 t7 t8 t9 t10
    obtain ⟨s0, e0, _, w0⟩ := DataW.trod_int Tryz.underlying3 t0
    obtain ⟨s1, s2, e1, w1, _⟩ := tid_of_trodR rfl t1
    obtain ⟨s3, e3, _, w3⟩ := DataW.trod_string Tryz.underlying9 t2
    obtain ⟨s4, e4, _⟩ := DataW.trod_bool Tryz.underlying4 t3
    obtain ⟨s5, e5, _, w5⟩ := DataW.trod_string Tryz.underlying9 t4
    obtain ⟨s6, e6, _, w6⟩ := DataW.trod_int Tryz.underlying22 t5
    obtain ⟨ns, n1, _⟩ := nums_of_trod Tryz.underlying25 Tryz.underlying3 cI t6
    obtain ⟨ks, k1, k2, _⟩ := strs_of_trod Tryz.underlying26 Tryz.underlying9 cT t7
    obtain ⟨gs, g1, g2⟩ := rows_of_trod (cs := ChgV.c) (Ok := fun q => q.At W) noChg Tryz.underlying27 (k := 9) (by kernel_rfl) (fun _ _ _ hl hq => chg_of_trod hl hq) t8
    obtain ⟨os, o1, o2⟩ := rows_of_trod (cs := OpenV.c) (Ok := OpenOk W) noOpen Tryz.underlying28 (k := 7) (by kernel_rfl) (fun _ _ _ hl hq => open_of_trod hl hq) t9
    obtain ⟨ds, d1, d2⟩ := rows_of_trod (cs := DoneV.c) (Ok := DoneOk W) noDone Tryz.underlying29 (k := 3) (by kernel_rfl) (fun _ _ _ hl hq => done_of_trod hl hq) t10
    simp at e0 e1 e3 e4 e5 e6
    obtain ⟨rfl, rfl⟩ := e1
    subst e0 e3 e4 e5 e6
    obtain ⟨na, nc, rfl⟩ := n1.form
    obtain ⟨ka, kc, rfl⟩ := k1.form
    obtain ⟨gn, ga, gc, rfl⟩ := g1.any
    obtain ⟨om, oa, oc, rfl⟩ := o1.any
    obtain ⟨dn, da, dc, rfl⟩ := d1.any
    have b6 := bounds_u64 w6
    exact ⟨⟨s0, s1, s2, s3, s4, s5, s6, na, _, nc, ns, ka, _, kc, ks, ga, gn, gc, gs, oa, om, oc, os, da, dn, dc, ds⟩, rfl,
      ⟨w3, w5, n1, k1, k2, g1, g2, o1, fun c hc => (o2 c hc).1, d1, fun c hc => (d2 c hc).1⟩, ⟨w1, by simp only; omega, fun o ho => (o2 o ho).2, fun o ho => (d2 o ho).2⟩⟩
end
end Go.Proofs.YtbgofajldkblmaaGreat
/- rec: Decode. Own lemmas, no statement. -/
set_option linter.unusedSimpArgs false
set_option linter.unusedVariables false
namespace Go.Proofs.YtbgofajldkblmaaGreat
open Go.ChangeShapes Go.WideShapes Go.ChangeAt Go.RowKit

theorem bytesEq_any (u v : Value) (a b : List UInt8) (w : World) (hu : Src w u a) (hv : Src w v b) : Calls Tryz.prog 37 #[u, v] w fun e w' => e = .returned (.bool (a == b)) ∧ w' = w := by
  have h1 := hu.str
  have h2 := hv.str
  obtain ⟨ao, ac, rfl⟩ := hu.form
  obtain ⟨bo, bc, rfl⟩ := hv.form
  generalize a.length = an at *
  generalize b.length = bn at *
  clear hu hv
  go_enter Tryz.func37, Tryz.ntmps37
  go_wp2
  go_ret
  exact ⟨ret_bool (by simp), rfl⟩

/-! What is read lies within the bounds that the types have. -/
def QWf (q : RecQ) : Prop := (0 ≤ q.num ∧ q.num < 18446744073709551616) ∧ (0 ≤ q.prev ∧ q.prev < 18446744073709551616) ∧ (∀ o ∈ q.os, (0 ≤ o.num ∧ o.num < 18446744073709551616) ∧ (0 ≤ o.last ∧ o.last < 18446744073709551616) ∧ (0 ≤ o.first ∧ o.first < 18446744073709551616)) ∧ ∀ d ∈ q.ds, 0 ≤ d.num ∧ d.num < 18446744073709551616
theorem QWf.wf {x : RecV} (h : QWf x.q) : x.Wf := ⟨h.1, h.2.1, fun o ho => h.2.2.1 o.q (List.mem_map.2 ⟨o, ho, rfl⟩), fun d hd => h.2.2.2 d.q (List.mem_map.2 ⟨d, hd, rfl⟩)⟩
theorem rtidI_wf (l : List UInt8) (e : Nat) : 0 ≤ (rtidI l e).1.1 ∧ (rtidI l e).1.1 < 18446744073709551616 := by
  have h := (rnum_facts l e 1099511627776).1
  have h2 : (rtid l e).1.1 < 18446744073709551616 := by
    unfold rtid
    split
    · simp
    · exact h
  unfold rtidI
  exact ⟨by simp, by simp only; omega⟩
theorem ropen_wf (l : List UInt8) (e : Nat) : (0 ≤ (ropen l e).1.num ∧ (ropen l e).1.num < 18446744073709551616) ∧ (0 ≤ (ropen l e).1.last ∧ (ropen l e).1.last < 18446744073709551616) ∧ (0 ≤ (ropen l e).1.first ∧ (ropen l e).1.first < 18446744073709551616) := by
  obtain ⟨T, hT⟩ : ∃ x, x = rtidI l e := ⟨_, rfl⟩
  obtain ⟨A, hA⟩ : ∃ x, x = rint 4611686018427387904 T.2.1 T.2.2 := ⟨_, rfl⟩
  obtain ⟨B, hB⟩ : ∃ x, x = rint 4611686018427387904 A.2.1 A.2.2 := ⟨_, rfl⟩
  have e1 : (ropen l e).1.num = T.1.1 := by subst hT; rfl
  have e2 : (ropen l e).1.last = A.1 := by subst hA hT; rfl
  have e3 : (ropen l e).1.first = B.1 := by subst hB hA hT; rfl
  have f1 := rtidI_wf l e
  have f2 : 0 ≤ A.1 ∧ A.1 ≤ 4611686018427387904 := by subst hA; exact rint_le _ _ _
  have f3 : 0 ≤ B.1 ∧ B.1 ≤ 4611686018427387904 := by subst hB; exact rint_le _ _ _
  rw [← hT] at f1
  rw [e1, e2, e3]
  exact ⟨f1, by omega, by omega⟩
theorem rdone_wf (l : List UInt8) (e : Nat) : 0 ≤ (rdone l e).1.num ∧ (rdone l e).1.num < 18446744073709551616 := rtidI_wf l e
theorem rbody_wf (k : Int) (t : Int × Int) (ht : 0 ≤ t.1 ∧ t.1 < 18446744073709551616) (l : List UInt8) (e : Nat) : QWf (rbody k t l e).1 := by
  have none1 : ∀ (P : OpenQ → Prop), ∀ o ∈ ([] : List OpenQ), P o := fun P o ho => by cases ho
  have none2 : ∀ (P : DoneQ → Prop), ∀ o ∈ ([] : List DoneQ), P o := fun P o ho => by cases ho
  have turn : ∀ l e, 0 ≤ (rturn l e).1.1 ∧ (rturn l e).1.1 < 18446744073709551616 := fun l e => by
    have h := rint_le 4611686018427387904 l e
    have e1 : (rturn l e).1.1 = (rint 4611686018427387904 l e).1 := rfl
    rw [e1]
    omega
  have zero0 : 0 ≤ (0 : Int) ∧ (0 : Int) < 18446744073709551616 := by omega
  unfold rbody
  split
  · exact ⟨ht, turn _ _, none1 _, none2 _⟩
  · split
    · exact ⟨ht, turn _ _, none1 _, none2 _⟩
    · split
      · exact ⟨ht, zero0, none1 _, none2 _⟩
      · split
        · exact ⟨ht, zero0, none1 _, none2 _⟩
        · split
          · refine ⟨ht, zero0, ?_, ?_⟩
            · exact rtk_mem (P := fun o : OpenQ => (0 ≤ o.num ∧ o.num < 18446744073709551616) ∧ (0 ≤ o.last ∧ o.last < 18446744073709551616) ∧ (0 ≤ o.first ∧ o.first < 18446744073709551616)) ropen_wf _ _ _
            · exact rtk_mem (P := fun d : DoneQ => 0 ≤ d.num ∧ d.num < 18446744073709551616) rdone_wf _ _ _
          · exact ⟨ht, zero0, none1 _, none2 _⟩

def PP (l : List UInt8) (R1 : RecQ) (w : World) (e : Ending) (w' : World) : Prop :=
  ((∃ x : RecV, e = .returned (.tuple #[recVal x, .int .i64 0]) ∧ x.At w' ∧ x.Wf ∧ rightRec x = true ∧ recBytes x = l ∧ l.length ≤ 16384 ∧ x.q = R1) ∨
   (e = .returned (.tuple #[.agg #[.int .i64 0, .int .u64 0, .int .i64 0, .string ⟨#[]⟩, .bool false, .string ⟨#[]⟩, .int .u64 0, .slice none 0 0, .slice none 0 0, .slice none 0 0, .slice none 0 0, .slice none 0 0], .int .i64 11]) ∧ ∃ y : RecV, y.Wf ∧ y.q = R1 ∧ ¬ (rightRec y = true ∧ recBytes y = l ∧ l.length ≤ 16384))) ∧ Below w.heap.size w w'
/-- What Decode hands back. -/
def DecRP (l : List UInt8) (w : World) (e : Ending) (w' : World) : Prop := PP l (rrec l 0).1 w e w'

set_option maxRecDepth 100000 in
set_option maxHeartbeats 8000000 in
theorem recDecode_any (v : Value) (l : List UInt8) (w : World) (hs : Src w v l) (hl : l.length < 900000000000) : Calls Tryz.prog 12 #[v] w (DecRP l w) := by
  obtain ⟨ao, c, hv⟩ := hs.form
  subst hv
  have HSRC : Hid (Src w (.slice ao l.length c) l) := hs
  obtain ⟨W0, hW0⟩ : ∃ W0, W0 = w.alloc (.cells #[.int .i64 0, .int .u64 0, .int .i64 0, .string ⟨#[]⟩, .bool false, .string ⟨#[]⟩, .int .u64 0, .slice none 0 0, .slice none 0 0, .slice none 0 0, .slice none 0 0, .slice none 0 0] 31) := ⟨_, rfl⟩
  have HE0 : Hid (Below w.heap.size w W0) := by rw [hW0]; exact (Below.refl _ _).alloc (Nat.le_refl _) _
  have HB0 : Hid (Blk W0 w.heap.size #[.int .i64 0, .int .u64 0, .int .i64 0, .string ⟨#[]⟩, .bool false, .string ⟨#[]⟩, .int .u64 0, .slice none 0 0, .slice none 0 0, .slice none 0 0, .slice none 0 0, .slice none 0 0] 31) := by rw [hW0]; exact Blk.new _ _ _
  have HSZ : Hid (W0.heap.size = w.heap.size + 1) := by show _ = _; rw [hW0]; simp
  have HRD : Hid (Calls _ _ _ _ _) := read_any ao l.length c l W0 (HSRC.out.below HE0.out) hl
  clear hs hl
  -- the plain reading
  obtain ⟨K, hK⟩ : ∃ x, x = rint 8 l 0 := ⟨_, rfl⟩
  obtain ⟨T, hT⟩ : ∃ x, x = rtidI K.2.1 K.2.2 := ⟨_, rfl⟩
  have HQ : Hid ((rbody K.1 T.1 T.2.1 T.2.2).1 = (rrec l 0).1) := by subst hT hK; rfl
  have HCK : Hid (∀ g b W, Rdr W g b l 0 → Calls Tryz.prog 34 #[.pointer (some ⟨g, 0, none⟩), .int .u64 8] W fun e w' => ∃ v, e = .returned v ∧ vU64 W.heap.size w' v K.1 ∧ Rdr w' g b K.2.1 K.2.2 ∧ W.grownBy w' (some g)) := fun g b W hW => by subst hK; exact rint_read 8 g b _ _ W hW
  have HCT : Hid (∀ g b W, Rdr W g b K.2.1 K.2.2 → Calls Tryz.prog 35 #[.pointer (some ⟨g, 0, none⟩)] W fun e w' => ∃ v, e = .returned v ∧ vTid W.heap.size w' v T.1 ∧ Rdr w' g b T.2.1 T.2.2 ∧ W.grownBy w' (some g)) := fun g b W hW => by subst hT; exact rtid_read g b _ _ W hW
  have FK : 0 ≤ K.1 ∧ K.1 ≤ 8 := by subst hK; exact rint_le 8 _ _
  have FT : Hid (QWf (rrec l 0).1) := by
    rw [← HQ.out]
    exact rbody_wf _ _ (by subst hT; exact rtidI_wf _ _) _ _
  clear hT hK
  obtain ⟨Kv, Kl, Ke⟩ := K
  obtain ⟨⟨tx, ty⟩, Tl, Te⟩ := T
  simp only at FK
  have HFK : Hid (0 ≤ Kv ∧ Kv ≤ 8) := FK
  unfold DecRP
  generalize rrec l 0 = R at *
  obtain ⟨R1, R2⟩ := R
  simp only at FT HQ
  obtain ⟨LL, hLL⟩ : ∃ n, l.length = n := ⟨_, rfl⟩
  have HLL : Hid (l.length = LL) := hLL
  have HP : Hid (∀ e w', (((∃ x : RecV, e = .returned (.tuple #[recVal x, .int .i64 0]) ∧ x.At w' ∧ x.Wf ∧ rightRec x = true ∧ recBytes x = l ∧ LL ≤ 16384 ∧ x.q = R1) ∨
   (e = .returned (.tuple #[.agg #[.int .i64 0, .int .u64 0, .int .i64 0, .string ⟨#[]⟩, .bool false, .string ⟨#[]⟩, .int .u64 0, .slice none 0 0, .slice none 0 0, .slice none 0 0, .slice none 0 0, .slice none 0 0], .int .i64 11]) ∧ ∃ y : RecV, y.Wf ∧ y.q = R1 ∧ ¬ (rightRec y = true ∧ recBytes y = l ∧ LL ≤ 16384))) ∧ Below w.heap.size w w') → PP l R1 w e w') := fun e w' h => by unfold PP; rw [HLL.out]; exact h
  rw [hLL] at HSRC HRD ⊢
  clear hLL
  go_enter Tryz.func12, Tryz.ntmps12
  go_upto_region 1 with fail
  rw [← hW0]
  clear hW0
  go_wp2_with fail
  refine HRD.out.mono ?_
  rintro e w1 ⟨g, b, rfl, hr1, hb1, hg1, hrb1⟩
  have HR1 : Hid (Rdr w1 g b l 0) := hr1
  have HY1 : Hid (Below W0.heap.size W0 w1) := hb1
  have HG : Hid (W0.heap.size ≤ g ∧ W0.heap.size ≤ b) := ⟨hg1, hrb1⟩
  clear hr1 hb1 hg1 hrb1 HRD
  have HX : Hid (Calls _ _ _ _ _) := HCK.out g b w1 HR1.out
  go_wp2_with fail
  refine HX.out.mono ?_
  rintro e w2 ⟨v1, rfl, hv1, h1, h2⟩
  have hv1' : v1 = .int .u64 Kv := hv1
  subst hv1'
  have HR2 : Hid (Rdr w2 g b Kl Ke) := h1
  have HY2 : Hid (Below W0.heap.size W0 w2) := HY1.out.grown h2 HY1.out.size (fun k hk => by cases hk; exact HG.out.1)
  clear hv1 h1 h2 HX HCK HR1 HY1
  have HX : Hid (Calls _ _ _ _ _) := HCT.out g b w2 HR2.out
  go_wp2_with fail
  refine HX.out.mono ?_
  rintro e w3 ⟨v1, rfl, hv1, h1, h2⟩
  have hv1' : v1 = .agg #[.int .u64 tx, .int .i64 ty] := hv1
  subst hv1'
  have HR3 : Hid (Rdr w3 g b Tl Te) := h1
  have HY3 : Hid (Below W0.heap.size W0 w3) := HY2.out.grown h2 HY2.out.size (fun k hk => by cases hk; exact HG.out.1)
  clear hv1 h1 h2 HX HCT HR2 HY2
  obtain ⟨w4, hw4⟩ : ∃ x, x = w3.alloc (.cells #[.int .i64 Kv, .int .u64 tx, .int .i64 ty, .string ⟨#[]⟩, .bool false, .string ⟨#[]⟩, .int .u64 0, .slice none 0 0, .slice none 0 0, .slice none 0 0, .slice none 0 0, .slice none 0 0] 31) := ⟨_, rfl⟩
  have HB4 : Hid (Blk w4 w3.heap.size #[.int .i64 Kv, .int .u64 tx, .int .i64 ty, .string ⟨#[]⟩, .bool false, .string ⟨#[]⟩, .int .u64 0, .slice none 0 0, .slice none 0 0, .slice none 0 0, .slice none 0 0, .slice none 0 0] 31) := by rw [hw4]; exact Blk.new _ _ _
  have HR4 : Hid (Rdr w4 g b Tl Te) := by rw [hw4]; exact HR3.out.below (below_allocR _)
  have HY4 : Hid (Below W0.heap.size W0 w4) := by rw [hw4]; exact HY3.out.alloc HY3.out.size _
  have HNE : Hid (w3.heap.size ≠ g ∧ w3.heap.size ≠ b ∧ W0.heap.size ≤ w3.heap.size) := by
    have h1 := HR3.out.lt
    have h2 := HR3.out.2.1
    exact ⟨by omega, by omega, HY3.out.size⟩
  go_upto_region 3 with fail
  rw [← hw4]
  clear hw4 HR3 HY3
  generalize w3.heap.size = p at *
  have HX : Hid (Calls _ _ _ _ _) := recRead_any p g b Tl Te Kv tx ty w4 HR4.out HB4.out HNE.out.1 HNE.out.2.1 HFK.out
  go_wp2_with fail
  refine HX.out.mono ?_
  rintro e w5 ⟨rfl, x, hxq, hxa, hxb, hxt⟩
  have HXQ : Hid (x.q = R1) := hxq.trans HQ.out
  have HXA : Hid (StaI w4.heap.size w5.heap.size w5 fun W => x.At W) := hxa
  have HLO : Hid (w.heap.size < w4.heap.size) := by have := HY4.out.size; have := HSZ.out; show _ < _; omega
  have HXW : Hid x.Wf := QWf.wf (by rw [HXQ.out]; exact FT.out)
  have HB5 : Hid (Blk w5 p #[.int .i64 x.kind, .int .u64 x.num, .int .i64 x.node, .string x.key, .bool x.was, .string x.old, .int .u64 x.prev, .slice x.na x.nn x.nc, .slice x.ra x.rn x.rc, .slice x.ga x.gn x.gc, .slice x.oa x.om x.oc, .slice x.da x.dn x.dc] 31) := hxb
  have HY5 : Hid (Below W0.heap.size W0 w5) := HY4.out.trans ((Chg.below hxt (B := W0.heap.size) HY4.out.size (fun i hi => by rcases hi with e | e <;> subst e; exact HG.out.1; exact HNE.out.2.2)))
  clear hxq hxa hxb hxt HX HB4 HR4 HY4 HQ FT HFK
  have z0 : w5.cell? ⟨p, 0, none⟩ = some (.int .i64 x.kind) := HB5.out.cell 0
  have z1 : w5.cell? ⟨p, 1, none⟩ = some (.int .u64 x.num) := HB5.out.cell 1
  have z2 : w5.cell? ⟨p, 2, none⟩ = some (.int .i64 x.node) := HB5.out.cell 2
  have z3 : w5.cell? ⟨p, 3, none⟩ = some (.string x.key) := HB5.out.cell 3
  have z4 : w5.cell? ⟨p, 4, none⟩ = some (.bool x.was) := HB5.out.cell 4
  have z5 : w5.cell? ⟨p, 5, none⟩ = some (.string x.old) := HB5.out.cell 5
  have z6 : w5.cell? ⟨p, 6, none⟩ = some (.int .u64 x.prev) := HB5.out.cell 6
  have z7 : w5.cell? ⟨p, 7, none⟩ = some (.slice x.na x.nn x.nc) := HB5.out.cell 7
  have z8 : w5.cell? ⟨p, 8, none⟩ = some (.slice x.ra x.rn x.rc) := HB5.out.cell 8
  have z9 : w5.cell? ⟨p, 9, none⟩ = some (.slice x.ga x.gn x.gc) := HB5.out.cell 9
  have z10 : w5.cell? ⟨p, 10, none⟩ = some (.slice x.oa x.om x.oc) := HB5.out.cell 10
  have z11 : w5.cell? ⟨p, 11, none⟩ = some (.slice x.da x.dn x.dc) := HB5.out.cell 11
  have HX : Hid (Calls _ _ _ _ _) := encQ_any x w5 HXA.out.here HXW.out
  go_wp2_with fail
  refine HX.out.mono ?_
  rintro e w6 ⟨he, y⟩
  have HX6 : Hid (StaI w4.heap.size w5.heap.size w6 fun W => x.At W) := HXA.out.below (Nat.le_refl _) y
  have HB6 : Hid (Blk w6 p #[.int .i64 x.kind, .int .u64 x.num, .int .i64 x.node, .string x.key, .bool x.was, .string x.old, .int .u64 x.prev, .slice x.na x.nn x.nc, .slice x.ra x.rn x.rc, .slice x.ga x.gn x.gc, .slice x.oa x.om x.oc, .slice x.da x.dn x.dc] 31) := Blk.of HB5.out (y.block _ HB5.out.lt)
  have HY6 : Hid (Below W0.heap.size W0 w6) := HY5.out.trans (Below.mono y HY5.out.size)
  have HZ : Hid (Blk w6 w.heap.size #[.int .i64 0, .int .u64 0, .int .i64 0, .string ⟨#[]⟩, .bool false, .string ⟨#[]⟩, .int .u64 0, .slice none 0 0, .slice none 0 0, .slice none 0 0, .slice none 0 0, .slice none 0 0] 31) := Blk.of HB0.out (HY6.out.block _ (by have := HSZ.out; omega))
  have HYW : Hid (Below w.heap.size w w6) := ext_trans HE0.out HY6.out
  have HSR6 : Hid (Src w6 (.slice ao LL c) l) := HSRC.out.below HYW.out
  have HPW : Hid (w.heap.size < p) := by have := HNE.out.2.2; have := HSZ.out; show _ < _; omega
  clear y HX z0 z1 z2 z3 z4 z5 z6 z7 z8 z9 z10 z11 HB5 HY5 HXA HSRC HE0 HB0 HNE HG
  rcases he with ⟨hr, hlen, a2, c2, rfl, hs2⟩ | ⟨er, rfl, her⟩
  · have HRT : Hid (rightRec x = true ∧ (recBytes x).length ≤ 16384) := ⟨hr, hlen⟩
    have HS2 : Hid (Src w6 (.slice a2 (recBytes x).length c2) (recBytes x)) := hs2
    clear hr hlen hs2
    obtain ⟨B, hB⟩ : ∃ y, y = recBytes x := ⟨_, rfl⟩
    have HBB : Hid (B = recBytes x) := hB
    rw [← hB] at HRT HS2 ⊢
    clear hB
    obtain ⟨bn, hbn⟩ : ∃ y, y = B.length := ⟨_, rfl⟩
    have HBN : Hid (bn = B.length) := hbn
    rw [← hbn] at HRT HS2 ⊢
    clear hbn
    have HX : Hid (Calls _ _ _ _ _) := bytesEq_any _ _ B l w6 HS2.out HSR6.out
    go_wp2_with fail
    refine HX.out.mono ?_
    rintro e w7 ⟨rfl, hw7⟩
    subst hw7
    clear HX
    by_cases hBl : B = l
    · have hbe : (B == l) = true := by simp [hBl]
      have HBL : Hid (B = l) := hBl
      rw [hbe]
      clear hBl hbe
      have z0 : w7.cell? ⟨p, 0, none⟩ = some (.int .i64 x.kind) := HB6.out.cell 0
      have z1 : w7.cell? ⟨p, 1, none⟩ = some (.int .u64 x.num) := HB6.out.cell 1
      have z2 : w7.cell? ⟨p, 2, none⟩ = some (.int .i64 x.node) := HB6.out.cell 2
      have z3 : w7.cell? ⟨p, 3, none⟩ = some (.string x.key) := HB6.out.cell 3
      have z4 : w7.cell? ⟨p, 4, none⟩ = some (.bool x.was) := HB6.out.cell 4
      have z5 : w7.cell? ⟨p, 5, none⟩ = some (.string x.old) := HB6.out.cell 5
      have z6 : w7.cell? ⟨p, 6, none⟩ = some (.int .u64 x.prev) := HB6.out.cell 6
      have z7 : w7.cell? ⟨p, 7, none⟩ = some (.slice x.na x.nn x.nc) := HB6.out.cell 7
      have z8 : w7.cell? ⟨p, 8, none⟩ = some (.slice x.ra x.rn x.rc) := HB6.out.cell 8
      have z9 : w7.cell? ⟨p, 9, none⟩ = some (.slice x.ga x.gn x.gc) := HB6.out.cell 9
      have z10 : w7.cell? ⟨p, 10, none⟩ = some (.slice x.oa x.om x.oc) := HB6.out.cell 10
      have z11 : w7.cell? ⟨p, 11, none⟩ = some (.slice x.da x.dn x.dc) := HB6.out.cell 11
      have y0 := HZ.out.cell 0
      have f0 := HZ.out.frozen 0
      have y1 := HZ.out.cell 1
      have f1 := HZ.out.frozen 1
      have y2 := HZ.out.cell 2
      have f2 := HZ.out.frozen 2
      have y3 := HZ.out.cell 3
      have f3 := HZ.out.frozen 3
      have y4 := HZ.out.cell 4
      have f4 := HZ.out.frozen 4
      have y5 := HZ.out.cell 5
      have f5 := HZ.out.frozen 5
      have y6 := HZ.out.cell 6
      have f6 := HZ.out.frozen 6
      have y7 := HZ.out.cell 7
      have f7 := HZ.out.frozen 7
      have y8 := HZ.out.cell 8
      have f8 := HZ.out.frozen 8
      have y9 := HZ.out.cell 9
      have f9 := HZ.out.frozen 9
      have y10 := HZ.out.cell 10
      have f10 := HZ.out.frozen 10
      have y11 := HZ.out.cell 11
      have f11 := HZ.out.frozen 11
      go_wp2
      have K1 : Blk (putL w7 w.heap.size 0 [.int .i64 x.kind, .int .u64 x.num, .int .i64 x.node, .string x.key, .bool x.was, .string x.old, .int .u64 x.prev, .slice x.na x.nn x.nc, .slice x.ra x.rn x.rc, .slice x.ga x.gn x.gc, .slice x.oa x.om x.oc, .slice x.da x.dn x.dc]) w.heap.size #[.int .i64 x.kind, .int .u64 x.num, .int .i64 x.node, .string x.key, .bool x.was, .string x.old, .int .u64 x.prev, .slice x.na x.nn x.nc, .slice x.ra x.rn x.rc, .slice x.ga x.gn x.gc, .slice x.oa x.om x.oc, .slice x.da x.dn x.dc] 31 := putL_all [.int .i64 x.kind, .int .u64 x.num, .int .i64 x.node, .string x.key, .bool x.was, .string x.old, .int .u64 x.prev, .slice x.na x.nn x.nc, .slice x.ra x.rn x.rc, .slice x.ga x.gn x.gc, .slice x.oa x.om x.oc, .slice x.da x.dn x.dc] HZ.out rfl
      have K3 : Below w.heap.size w (putL w7 w.heap.size 0 [.int .i64 x.kind, .int .u64 x.num, .int .i64 x.node, .string x.key, .bool x.was, .string x.old, .int .u64 x.prev, .slice x.na x.nn x.nc, .slice x.ra x.rn x.rc, .slice x.ga x.gn x.gc, .slice x.oa x.om x.oc, .slice x.da x.dn x.dc]) := putL_below (Nat.le_refl _) [.int .i64 x.kind, .int .u64 x.num, .int .i64 x.node, .string x.key, .bool x.was, .string x.old, .int .u64 x.prev, .slice x.na x.nn x.nc, .slice x.ra x.rn x.rc, .slice x.ga x.gn x.gc, .slice x.oa x.om x.oc, .slice x.da x.dn x.dc] 0 w7 HYW.out
      have K5 : ∀ j, j ≠ w.heap.size → (putL w7 w.heap.size 0 [.int .i64 x.kind, .int .u64 x.num, .int .i64 x.node, .string x.key, .bool x.was, .string x.old, .int .u64 x.prev, .slice x.na x.nn x.nc, .slice x.ra x.rn x.rc, .slice x.ga x.gn x.gc, .slice x.oa x.om x.oc, .slice x.da x.dn x.dc]).heap[j]? = w7.heap[j]? := fun j hj => putL_other _ _ hj _ _ _
      have K6 := putL_size w.heap.size [.int .i64 x.kind, .int .u64 x.num, .int .i64 x.node, .string x.key, .bool x.was, .string x.old, .int .u64 x.prev, .slice x.na x.nn x.nc, .slice x.ra x.rn x.rc, .slice x.ga x.gn x.gc, .slice x.oa x.om x.oc, .slice x.da x.dn x.dc] 0 w7
      have hgo : ∀ (Q : World → Prop), Q (putL w7 w.heap.size 0 [.int .i64 x.kind, .int .u64 x.num, .int .i64 x.node, .string x.key, .bool x.was, .string x.old, .int .u64 x.prev, .slice x.na x.nn x.nc, .slice x.ra x.rn x.rc, .slice x.ga x.gn x.gc, .slice x.oa x.om x.oc, .slice x.da x.dn x.dc]) → Q ((((((((((((w7.setCell ⟨w.heap.size, 0, none⟩ (.int .i64 x.kind)).setCell ⟨w.heap.size, 1, none⟩ (.int .u64 x.num)).setCell ⟨w.heap.size, 2, none⟩ (.int .i64 x.node)).setCell ⟨w.heap.size, 3, none⟩ (.string x.key)).setCell ⟨w.heap.size, 4, none⟩ (.bool x.was)).setCell ⟨w.heap.size, 5, none⟩ (.string x.old)).setCell ⟨w.heap.size, 6, none⟩ (.int .u64 x.prev)).setCell ⟨w.heap.size, 7, none⟩ (.slice x.na x.nn x.nc)).setCell ⟨w.heap.size, 8, none⟩ (.slice x.ra x.rn x.rc)).setCell ⟨w.heap.size, 9, none⟩ (.slice x.ga x.gn x.gc)).setCell ⟨w.heap.size, 10, none⟩ (.slice x.oa x.om x.oc)).setCell ⟨w.heap.size, 11, none⟩ (.slice x.da x.dn x.dc)) := fun _ h => h
      refine hgo _ ?_
      clear hgo y0 f0 y1 f1 y2 f2 y3 f3 y4 f4 y5 f5 y6 f6 y7 f7 y8 f8 y9 f9 y10 f10 y11 f11
      generalize (putL w7 w.heap.size 0 [.int .i64 x.kind, .int .u64 x.num, .int .i64 x.node, .string x.key, .bool x.was, .string x.old, .int .u64 x.prev, .slice x.na x.nn x.nc, .slice x.ra x.rn x.rc, .slice x.ga x.gn x.gc, .slice x.oa x.om x.oc, .slice x.da x.dn x.dc]) = W9 at *
      have z0 := K1.cell 0
      have z1 := K1.cell 1
      have z2 := K1.cell 2
      have z3 := K1.cell 3
      have z4 := K1.cell 4
      have z5 := K1.cell 5
      have z6 := K1.cell 6
      have z7 := K1.cell 7
      have z8 := K1.cell 8
      have z9 := K1.cell 9
      have z10 := K1.cell 10
      have z11 := K1.cell 11
      simp only [List.getElem?_toArray, List.getElem?_cons_zero, List.getElem?_cons_succ] at z0 z1 z2 z3 z4 z5 z6 z7 z8 z9 z10 z11
      refine bodyPost_ret (v := .tuple #[.agg #[.int .i64 x.kind, .int .u64 x.num, .int .i64 x.node, .string x.key, .bool x.was, .string x.old, .int .u64 x.prev, .slice x.na x.nn x.nc, .slice x.ra x.rn x.rc, .slice x.ga x.gn x.gc, .slice x.oa x.om x.oc, .slice x.da x.dn x.dc], .int .i64 0]) (by simp [results, Tryz.results12, go_sem, z0, z1, z2, z3, z4, z5, z6, z7, z8, z9, z10, z11]) rfl (HP.out _ _ ⟨.inl ⟨x, rfl, ?_, HXW.out, HRT.out.1, ?_, ?_, HXQ.out⟩, K3⟩)
      · exact (HX6.out.move fun i h1 h2 => K5 i (by have := HLO.out; omega)).here
      · exact HBB.out.symm.trans HBL.out
      · have h1 := HRT.out.2
        have h2 := HBN.out
        have h3 := HLL.out
        rw [HBL.out, h3] at h2
        omega
    · have hbe : (B == l) = false := by simp [hBl]
      have HBL : Hid (B ≠ l) := hBl
      rw [hbe]
      clear hBl hbe
      have y0 := HZ.out.cell 0
      have f0 := HZ.out.frozen 0
      have y1 := HZ.out.cell 1
      have f1 := HZ.out.frozen 1
      have y2 := HZ.out.cell 2
      have f2 := HZ.out.frozen 2
      have y3 := HZ.out.cell 3
      have f3 := HZ.out.frozen 3
      have y4 := HZ.out.cell 4
      have f4 := HZ.out.frozen 4
      have y5 := HZ.out.cell 5
      have f5 := HZ.out.frozen 5
      have y6 := HZ.out.cell 6
      have f6 := HZ.out.frozen 6
      have y7 := HZ.out.cell 7
      have f7 := HZ.out.frozen 7
      have y8 := HZ.out.cell 8
      have f8 := HZ.out.frozen 8
      have y9 := HZ.out.cell 9
      have f9 := HZ.out.frozen 9
      have y10 := HZ.out.cell 10
      have f10 := HZ.out.frozen 10
      have y11 := HZ.out.cell 11
      have f11 := HZ.out.frozen 11
      go_wp2
      have K1 : Blk (putL w7 w.heap.size 0 [.int .i64 0, .int .u64 0, .int .i64 0, .string ⟨#[]⟩, .bool false, .string ⟨#[]⟩, .int .u64 0, .slice none 0 0, .slice none 0 0, .slice none 0 0, .slice none 0 0, .slice none 0 0]) w.heap.size #[.int .i64 0, .int .u64 0, .int .i64 0, .string ⟨#[]⟩, .bool false, .string ⟨#[]⟩, .int .u64 0, .slice none 0 0, .slice none 0 0, .slice none 0 0, .slice none 0 0, .slice none 0 0] 31 := putL_all [.int .i64 0, .int .u64 0, .int .i64 0, .string ⟨#[]⟩, .bool false, .string ⟨#[]⟩, .int .u64 0, .slice none 0 0, .slice none 0 0, .slice none 0 0, .slice none 0 0, .slice none 0 0] HZ.out rfl
      have K3 : Below w.heap.size w (putL w7 w.heap.size 0 [.int .i64 0, .int .u64 0, .int .i64 0, .string ⟨#[]⟩, .bool false, .string ⟨#[]⟩, .int .u64 0, .slice none 0 0, .slice none 0 0, .slice none 0 0, .slice none 0 0, .slice none 0 0]) := putL_below (Nat.le_refl _) [.int .i64 0, .int .u64 0, .int .i64 0, .string ⟨#[]⟩, .bool false, .string ⟨#[]⟩, .int .u64 0, .slice none 0 0, .slice none 0 0, .slice none 0 0, .slice none 0 0, .slice none 0 0] 0 w7 HYW.out
      have K5 : ∀ j, j ≠ w.heap.size → (putL w7 w.heap.size 0 [.int .i64 0, .int .u64 0, .int .i64 0, .string ⟨#[]⟩, .bool false, .string ⟨#[]⟩, .int .u64 0, .slice none 0 0, .slice none 0 0, .slice none 0 0, .slice none 0 0, .slice none 0 0]).heap[j]? = w7.heap[j]? := fun j hj => putL_other _ _ hj _ _ _
      have K6 := putL_size w.heap.size [.int .i64 0, .int .u64 0, .int .i64 0, .string ⟨#[]⟩, .bool false, .string ⟨#[]⟩, .int .u64 0, .slice none 0 0, .slice none 0 0, .slice none 0 0, .slice none 0 0, .slice none 0 0] 0 w7
      have hgo : ∀ (Q : World → Prop), Q (putL w7 w.heap.size 0 [.int .i64 0, .int .u64 0, .int .i64 0, .string ⟨#[]⟩, .bool false, .string ⟨#[]⟩, .int .u64 0, .slice none 0 0, .slice none 0 0, .slice none 0 0, .slice none 0 0, .slice none 0 0]) → Q ((((((((((((w7.setCell ⟨w.heap.size, 0, none⟩ (.int .i64 0)).setCell ⟨w.heap.size, 1, none⟩ (.int .u64 0)).setCell ⟨w.heap.size, 2, none⟩ (.int .i64 0)).setCell ⟨w.heap.size, 3, none⟩ (.string ⟨#[]⟩)).setCell ⟨w.heap.size, 4, none⟩ (.bool false)).setCell ⟨w.heap.size, 5, none⟩ (.string ⟨#[]⟩)).setCell ⟨w.heap.size, 6, none⟩ (.int .u64 0)).setCell ⟨w.heap.size, 7, none⟩ (.slice none 0 0)).setCell ⟨w.heap.size, 8, none⟩ (.slice none 0 0)).setCell ⟨w.heap.size, 9, none⟩ (.slice none 0 0)).setCell ⟨w.heap.size, 10, none⟩ (.slice none 0 0)).setCell ⟨w.heap.size, 11, none⟩ (.slice none 0 0)) := fun _ h => h
      refine hgo _ ?_
      clear hgo y0 f0 y1 f1 y2 f2 y3 f3 y4 f4 y5 f5 y6 f6 y7 f7 y8 f8 y9 f9 y10 f10 y11 f11
      generalize (putL w7 w.heap.size 0 [.int .i64 0, .int .u64 0, .int .i64 0, .string ⟨#[]⟩, .bool false, .string ⟨#[]⟩, .int .u64 0, .slice none 0 0, .slice none 0 0, .slice none 0 0, .slice none 0 0, .slice none 0 0]) = W9 at *
      have z0 := K1.cell 0
      have z1 := K1.cell 1
      have z2 := K1.cell 2
      have z3 := K1.cell 3
      have z4 := K1.cell 4
      have z5 := K1.cell 5
      have z6 := K1.cell 6
      have z7 := K1.cell 7
      have z8 := K1.cell 8
      have z9 := K1.cell 9
      have z10 := K1.cell 10
      have z11 := K1.cell 11
      simp only [List.getElem?_toArray, List.getElem?_cons_zero, List.getElem?_cons_succ] at z0 z1 z2 z3 z4 z5 z6 z7 z8 z9 z10 z11
      exact bodyPost_ret (v := .tuple #[.agg #[.int .i64 0, .int .u64 0, .int .i64 0, .string ⟨#[]⟩, .bool false, .string ⟨#[]⟩, .int .u64 0, .slice none 0 0, .slice none 0 0, .slice none 0 0, .slice none 0 0, .slice none 0 0], .int .i64 11]) (by simp [results, Tryz.results12, go_sem, z0, z1, z2, z3, z4, z5, z6, z7, z8, z9, z10, z11]) rfl (HP.out _ _ ⟨.inr ⟨rfl, x, HXW.out, HXQ.out, fun h => HBL.out (HBB.out.trans h.2.1)⟩, K3⟩)
  · have hne : ¬ er = 0 := by rcases her with ⟨_, _, h⟩ | ⟨_, h⟩ <;> omega
    have hne2 : (er != 0) = true := by simp [hne]
    have hne3 : (er == 0) = false := by simp [hne]
    have HER : Hid (¬ (rightRec x = true ∧ recBytes x = l ∧ LL ≤ 16384)) := fun ⟨h1, h2, h3⟩ => by
      have h4 := HLL.out
      rcases her with ⟨_, h, _⟩ | ⟨h, _⟩
      · rw [h2] at h; omega
      · rw [h1] at h; cases h
    clear her hne
    have y0 := HZ.out.cell 0
    have f0 := HZ.out.frozen 0
    have y1 := HZ.out.cell 1
    have f1 := HZ.out.frozen 1
    have y2 := HZ.out.cell 2
    have f2 := HZ.out.frozen 2
    have y3 := HZ.out.cell 3
    have f3 := HZ.out.frozen 3
    have y4 := HZ.out.cell 4
    have f4 := HZ.out.frozen 4
    have y5 := HZ.out.cell 5
    have f5 := HZ.out.frozen 5
    have y6 := HZ.out.cell 6
    have f6 := HZ.out.frozen 6
    have y7 := HZ.out.cell 7
    have f7 := HZ.out.frozen 7
    have y8 := HZ.out.cell 8
    have f8 := HZ.out.frozen 8
    have y9 := HZ.out.cell 9
    have f9 := HZ.out.frozen 9
    have y10 := HZ.out.cell 10
    have f10 := HZ.out.frozen 10
    have y11 := HZ.out.cell 11
    have f11 := HZ.out.frozen 11
    go_wp2
    have K1 : Blk (putL w6 w.heap.size 0 [.int .i64 0, .int .u64 0, .int .i64 0, .string ⟨#[]⟩, .bool false, .string ⟨#[]⟩, .int .u64 0, .slice none 0 0, .slice none 0 0, .slice none 0 0, .slice none 0 0, .slice none 0 0]) w.heap.size #[.int .i64 0, .int .u64 0, .int .i64 0, .string ⟨#[]⟩, .bool false, .string ⟨#[]⟩, .int .u64 0, .slice none 0 0, .slice none 0 0, .slice none 0 0, .slice none 0 0, .slice none 0 0] 31 := putL_all [.int .i64 0, .int .u64 0, .int .i64 0, .string ⟨#[]⟩, .bool false, .string ⟨#[]⟩, .int .u64 0, .slice none 0 0, .slice none 0 0, .slice none 0 0, .slice none 0 0, .slice none 0 0] HZ.out rfl
    have K3 : Below w.heap.size w (putL w6 w.heap.size 0 [.int .i64 0, .int .u64 0, .int .i64 0, .string ⟨#[]⟩, .bool false, .string ⟨#[]⟩, .int .u64 0, .slice none 0 0, .slice none 0 0, .slice none 0 0, .slice none 0 0, .slice none 0 0]) := putL_below (Nat.le_refl _) [.int .i64 0, .int .u64 0, .int .i64 0, .string ⟨#[]⟩, .bool false, .string ⟨#[]⟩, .int .u64 0, .slice none 0 0, .slice none 0 0, .slice none 0 0, .slice none 0 0, .slice none 0 0] 0 w6 HYW.out
    have K5 : ∀ j, j ≠ w.heap.size → (putL w6 w.heap.size 0 [.int .i64 0, .int .u64 0, .int .i64 0, .string ⟨#[]⟩, .bool false, .string ⟨#[]⟩, .int .u64 0, .slice none 0 0, .slice none 0 0, .slice none 0 0, .slice none 0 0, .slice none 0 0]).heap[j]? = w6.heap[j]? := fun j hj => putL_other _ _ hj _ _ _
    have K6 := putL_size w.heap.size [.int .i64 0, .int .u64 0, .int .i64 0, .string ⟨#[]⟩, .bool false, .string ⟨#[]⟩, .int .u64 0, .slice none 0 0, .slice none 0 0, .slice none 0 0, .slice none 0 0, .slice none 0 0] 0 w6
    have hgo : ∀ (Q : World → Prop), Q (putL w6 w.heap.size 0 [.int .i64 0, .int .u64 0, .int .i64 0, .string ⟨#[]⟩, .bool false, .string ⟨#[]⟩, .int .u64 0, .slice none 0 0, .slice none 0 0, .slice none 0 0, .slice none 0 0, .slice none 0 0]) → Q ((((((((((((w6.setCell ⟨w.heap.size, 0, none⟩ (.int .i64 0)).setCell ⟨w.heap.size, 1, none⟩ (.int .u64 0)).setCell ⟨w.heap.size, 2, none⟩ (.int .i64 0)).setCell ⟨w.heap.size, 3, none⟩ (.string ⟨#[]⟩)).setCell ⟨w.heap.size, 4, none⟩ (.bool false)).setCell ⟨w.heap.size, 5, none⟩ (.string ⟨#[]⟩)).setCell ⟨w.heap.size, 6, none⟩ (.int .u64 0)).setCell ⟨w.heap.size, 7, none⟩ (.slice none 0 0)).setCell ⟨w.heap.size, 8, none⟩ (.slice none 0 0)).setCell ⟨w.heap.size, 9, none⟩ (.slice none 0 0)).setCell ⟨w.heap.size, 10, none⟩ (.slice none 0 0)).setCell ⟨w.heap.size, 11, none⟩ (.slice none 0 0)) := fun _ h => h
    refine hgo _ ?_
    clear hgo y0 f0 y1 f1 y2 f2 y3 f3 y4 f4 y5 f5 y6 f6 y7 f7 y8 f8 y9 f9 y10 f10 y11 f11
    generalize (putL w6 w.heap.size 0 [.int .i64 0, .int .u64 0, .int .i64 0, .string ⟨#[]⟩, .bool false, .string ⟨#[]⟩, .int .u64 0, .slice none 0 0, .slice none 0 0, .slice none 0 0, .slice none 0 0, .slice none 0 0]) = W9 at *
    have z0 := K1.cell 0
    have z1 := K1.cell 1
    have z2 := K1.cell 2
    have z3 := K1.cell 3
    have z4 := K1.cell 4
    have z5 := K1.cell 5
    have z6 := K1.cell 6
    have z7 := K1.cell 7
    have z8 := K1.cell 8
    have z9 := K1.cell 9
    have z10 := K1.cell 10
    have z11 := K1.cell 11
    simp only [List.getElem?_toArray, List.getElem?_cons_zero, List.getElem?_cons_succ] at z0 z1 z2 z3 z4 z5 z6 z7 z8 z9 z10 z11
    exact bodyPost_ret (v := .tuple #[.agg #[.int .i64 0, .int .u64 0, .int .i64 0, .string ⟨#[]⟩, .bool false, .string ⟨#[]⟩, .int .u64 0, .slice none 0 0, .slice none 0 0, .slice none 0 0, .slice none 0 0, .slice none 0 0], .int .i64 11]) (by simp [results, Tryz.results12, go_sem, z0, z1, z2, z3, z4, z5, z6, z7, z8, z9, z10, z11]) rfl (HP.out _ _ ⟨.inr ⟨rfl, x, HXW.out, HXQ.out, HER.out⟩, K3⟩)
end Go.Proofs.YtbgofajldkblmaaGreat

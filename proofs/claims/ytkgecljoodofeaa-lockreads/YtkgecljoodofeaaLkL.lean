/- Go maps that a call made, beside a function: keys and elements of any kind that is told; for lock: lines, sets, sets of transactions. Own lemmas, no statement. -/
import Derived.Test.YtkgecljoodofeaaLkK
import Derived.Maps.OwnSet
import Derived.DeepKeys4
set_option linter.unusedSimpArgs false
set_option linter.unusedVariables false
namespace Go.Proofs.Ytkgecljoodofeaa
open Go.ChangeShapes Go.WideShapes Go.ChangeAt Go.RowKit
open Go.Maps (IsMap Tidy has size)

/-- How keys and elements of a map lie. -/
structure Cod (K E : Type) where
  kt : TypeId
  et : TypeId
  mt : TypeId
  kv : K → Value
  kl : K → Lit
  wf : K → Prop
  eqB : K → K → Bool
  R : Value → Option (DataW Unit × List MemPlace)
  ev : E → Value
  ed : E → DataW Unit
  zero : E
/-- That it is so. -/
structure Cod.Ok {K E : Type} (C : Cod K E) : Prop where
  eq : ∀ q k, C.eqB q k = true ↔ q = k
  keyed : Maps.Keyed Try.prog C.kt
  und : Try.prog.underlying C.mt = some (.map C.kt C.et)
  key : ∀ k, C.wf k → keyOf Try.prog C.kt (C.kv k) = some (C.kl k)
  inj : ∀ q k, C.wf q → C.wf k → q ≠ k → C.kl q ≠ C.kl k
  lit : ∀ k, WideAt.IsKeyLit (C.kl k)
  rmk : ∀ e, C.R (C.ev e) = some (C.ed e, [])
  inv : ∀ v e ps, C.R v = some (C.ed e, ps) → v = C.ev e
  zv : ∀ w, (zeroValue C.et).run Try.prog w = .ok (C.ev C.zero) w

section
variable {K E : Type} {C : Cod K E}
def putF (C : Cod K E) (f : K → Option E) (k : K) (e : E) : K → Option E := fun q => if C.eqB q k then some e else f q
def delF (C : Cod K E) (f : K → Option E) (k : K) : K → Option E := fun q => if C.eqB q k then none else f q
theorem putF_same (h : C.Ok) (f : K → Option E) (k : K) (e : E) : putF C f k e k = some e := by unfold putF; rw [if_pos ((h.eq k k).2 rfl)]
theorem putF_other (h : C.Ok) (f : K → Option E) {q k : K} (e : E) (hne : q ≠ k) : putF C f k e q = f q := by unfold putF; rw [if_neg (fun x => hne ((h.eq q k).1 x))]
theorem delF_same (h : C.Ok) (f : K → Option E) (k : K) : delF C f k k = none := by unfold delF; rw [if_pos ((h.eq k k).2 rfl)]
theorem delF_other (h : C.Ok) (f : K → Option E) {q k : K} (hne : q ≠ k) : delF C f k q = f q := by unfold delF; rw [if_neg (fun x => hne ((h.eq q k).1 x))]
/-- The map has what f has; ks are its keys. -/
structure MapF (C : Cod K E) (D : DataW Unit) (f : K → Option E) (ks : List K) : Prop where
  tidy : Tidy D
  at_ : ∀ q, C.wf q → has D (C.kl q) = (f q).isSome ∧ ∀ z, D.atKey (C.kl q) z = match f q with | some e => C.ed e | none => z
  nodup : ks.Nodup
  mem : ∀ q, (f q).isSome = true ↔ q ∈ ks
  wf : ∀ q, q ∈ ks → C.wf q
  len : size D = ks.length
theorem MapF.nil (C : Cod K E) : MapF C (.map []) (fun _ => none) [] := ⟨Maps.tidy_empty, fun _ _ => ⟨rfl, fun _ => rfl⟩, List.nodup_nil, fun q => by simp, fun q h => by simp at h, rfl⟩
theorem MapF.put (h : C.Ok) {D : DataW Unit} {f : K → Option E} {ks : List K} (m : MapF C D f ks) (k : K) (hk : C.wf k) (e : E) : ∃ ks', MapF C (D.put (C.kl k) (C.ed e)) (putF C f k e) ks' := by
  have hat : ∀ q, C.wf q → has (D.put (C.kl k) (C.ed e)) (C.kl q) = (putF C f k e q).isSome ∧ ∀ z, (D.put (C.kl k) (C.ed e)).atKey (C.kl q) z = match putF C f k e q with | some e => C.ed e | none => z := fun q hq => by
    by_cases hqk : q = k
    · subst hqk
      rw [putF_same h]
      exact ⟨Maps.has_put_same m.tidy.isMap (h.lit q) _, fun z => Maps.atKey_put_same m.tidy.isMap (h.lit q) _ z⟩
    · rw [putF_other h f e hqk]
      exact ⟨by rw [Maps.has_put_other (h.inj q k hq hk hqk)]; exact (m.at_ q hq).1, fun z => by rw [Maps.atKey_put_other (h.inj q k hq hk hqk)]; exact (m.at_ q hq).2 z⟩
  have hsz := Maps.size_put m.tidy (k := C.kl k) (C.ed e)
  rw [(m.at_ k hk).1] at hsz
  cases hf : (f k).isSome with
  | true =>
    refine ⟨ks, m.tidy.put (h.lit k) _, hat, m.nodup, fun q => ?_, m.wf, by rw [hsz, hf, if_pos rfl]; exact m.len⟩
    by_cases hqk : q = k
    · subst hqk
      rw [putF_same h]
      exact ⟨fun _ => (m.mem q).1 hf, fun _ => rfl⟩
    · rw [putF_other h f e hqk]; exact m.mem q
  | false =>
    have hnk : k ∉ ks := fun hm => by have := (m.mem k).2 hm; rw [hf] at this; cases this
    refine ⟨k :: ks, m.tidy.put (h.lit k) _, hat, List.nodup_cons.2 ⟨hnk, m.nodup⟩, fun q => ?_, fun q hq => ?_, by rw [hsz, hf, m.len]; rfl⟩
    · by_cases hqk : q = k
      · subst hqk
        rw [putF_same h]
        simp
      · rw [putF_other h f e hqk, m.mem q]
        simp [hqk]
    · rcases List.mem_cons.1 hq with rfl | hq
      · exact hk
      · exact m.wf q hq
theorem MapF.del (h : C.Ok) {D : DataW Unit} {f : K → Option E} {ks : List K} (m : MapF C D f ks) (k : K) (hk : C.wf k) : ∃ ks', MapF C (D.del (C.kl k)) (delF C f k) ks' := by
  have hat : ∀ q, C.wf q → has (D.del (C.kl k)) (C.kl q) = (delF C f k q).isSome ∧ ∀ z, (D.del (C.kl k)).atKey (C.kl q) z = match delF C f k q with | some e => C.ed e | none => z := fun q hq => by
    by_cases hqk : q = k
    · subst hqk
      rw [delF_same h]
      exact ⟨Maps.has_del_same, fun z => Maps.atKey_del_same z⟩
    · rw [delF_other h f hqk]
      exact ⟨by rw [Maps.has_del_other (h.inj q k hq hk hqk)]; exact (m.at_ q hq).1, fun z => by rw [Maps.atKey_del_other (h.inj q k hq hk hqk)]; exact (m.at_ q hq).2 z⟩
  have hsz := Maps.size_del m.tidy (k := C.kl k)
  rw [(m.at_ k hk).1] at hsz
  cases hf : (f k).isSome with
  | false =>
    refine ⟨ks, m.tidy.del _, hat, m.nodup, fun q => ?_, m.wf, by rw [hf] at hsz; simpa [m.len] using hsz⟩
    by_cases hqk : q = k
    · subst hqk
      rw [delF_same h]
      exact ⟨fun x => by simp at x, fun hm => by have := (m.mem q).2 hm; rw [hf] at this; cases this⟩
    · rw [delF_other h f hqk]; exact m.mem q
  | true =>
    obtain ⟨a, b, hab⟩ := List.append_of_mem ((m.mem k).1 hf)
    have hnd := m.nodup
    rw [hab] at hnd
    have hnd2 := List.nodup_append.1 hnd
    have hkc := List.nodup_cons.1 hnd2.2.1
    have hka : k ∉ a := fun x => hnd2.2.2 k x k (by simp) rfl
    refine ⟨a ++ b, m.tidy.del _, hat, ?_, fun q => ?_, fun q hq => m.wf q (by rw [hab]; simp only [List.mem_append, List.mem_cons] at hq ⊢; rcases hq with x | x; exact .inl x; exact .inr (.inr x)), ?_⟩
    · exact List.nodup_append.2 ⟨hnd2.1, hkc.2, fun x hx y hy => hnd2.2.2 x hx y (by simp [hy])⟩
    · by_cases hqk : q = k
      · subst hqk
        rw [delF_same h]
        simp [hka, hkc.1]
      · rw [delF_other h f hqk, m.mem q, hab]
        simp [hqk]
    · rw [hf, m.len, hab] at hsz
      simp at hsz ⊢
      omega

/-- Block b is a Go map that has what f has; n stores were made. -/
def GM (C : Cod K E) (w : World) (b n : Nat) (f : K → Option E) : Prop := ∃ D ks, w.ownsMap Try.prog C.kt C.R b n D ∧ MapF C D f ks
theorem GM.made (C : Cod K E) (w : World) : GM C (w.alloc (.map #[] 0)) w.heap.size 0 (fun _ => none) := ⟨_, _, World.ownsMap_made w _ _ _, MapF.nil C⟩
variable {w w' : World} {b n : Nat} {f : K → Option E}
theorem GM.isMap (h : GM C w b n f) : ∃ es c, w.heap[b]? = some (.map es c) := by
  obtain ⟨D, ks, ⟨es, c, hh, _⟩, _⟩ := h
  exact ⟨es, c, hh⟩
theorem GM.lt (h : GM C w b n f) : b < w.heap.size := by
  obtain ⟨es, c, hh⟩ := h.isMap
  exact (Array.getElem?_eq_some_iff.1 hh).1
theorem GM.of (h : GM C w b n f) (e : w'.heap[b]? = w.heap[b]?) : GM C w' b n f := by
  obtain ⟨D, ks, ⟨es, c, hh, r⟩, h2⟩ := h
  exact ⟨D, ks, ⟨es, c, e.trans hh, r⟩, h2⟩
theorem GM.below (h : GM C w b n f) (hb : Ext w w') : GM C w' b n f := h.of (hb.block b h.lt)
theorem GM.mono (h : GM C w b n f) {n' : Nat} (hn : n ≤ n') : GM C w b n' f := by
  obtain ⟨D, ks, h1, h2⟩ := h
  exact ⟨D, ks, h1.mono hn, h2⟩
theorem GM.ne {b' : Nat} {c : Array Value} {T : TypeId} (h : GM C w b n f) (hb : Blk w b' c T) : b ≠ b' := by
  rintro rfl
  obtain ⟨es, c', hh⟩ := h.isMap
  unfold Blk at hb
  rw [hh] at hb
  cases hb
theorem GM.congr (h : GM C w b n f) {g : K → Option E} (e : ∀ q, g q = f q) : GM C w b n g := by
  have : g = f := funext e
  rw [this]; exact h
theorem GM.ask (h : GM C w b n f) (ok : C.Ok) (q : K) (hq : C.wf q) : (Instr.lookup C.mt (.map (some b)) (C.kv q) false).run Try.prog w = .ok (C.ev ((f q).getD C.zero)) w := by
  obtain ⟨D, ks, h1, h2⟩ := h
  obtain ⟨v, ps, hr, hv⟩ := h1.lookup ok.keyed ok.und (ok.zv w) (ok.rmk C.zero) (ok.key q hq)
  rw [hr]
  rw [(h2.at_ q hq).2] at hv
  cases hf : f q with
  | none => rw [hf] at hv; rw [ok.inv v C.zero ps hv]; rfl
  | some e => rw [hf] at hv; rw [ok.inv v e ps hv]; rfl
theorem GM.lay (h : GM C w b n f) (ok : C.Ok) (hn : n < maxLen) (q : K) (hq : C.wf q) (x : E) : ∃ w', (Instr.mapUpdate C.mt (.map (some b)) (C.kv q) (C.ev x)).run Try.prog w = .ok () w' ∧ GM C w' b (n + 1) (putF C f q x) ∧ Chg (fun k => k = b) w w' := by
  obtain ⟨D, ks, h1, h2⟩ := h
  obtain ⟨w', hr, h3, h4⟩ := h1.update ok.keyed ok.und hn (ok.key q hq) (ok.rmk x)
  obtain ⟨ks', h5⟩ := h2.put ok q hq x
  exact ⟨w', hr, ⟨_, ks', h3, h5⟩, (Chg.refl _ _).grown h4 (fun k e _ => by cases e; rfl)⟩
theorem GM.drop (h : GM C w b n f) (ok : C.Ok) (q : K) (hq : C.wf q) (ty : TypeId) : ∃ w', (Builtin.delete_ #[C.mt, C.kt] ty #[.map (some b), C.kv q]).run Try.prog w = .ok (.tuple #[]) w' ∧ GM C w' b n (delF C f q) ∧ Chg (fun k => k = b) w w' := by
  obtain ⟨D, ks, h1, h2⟩ := h
  obtain ⟨w', hr, h3, h4⟩ := h1.drop ok.keyed ok.und (ok.key q hq) ty
  obtain ⟨ks', h5⟩ := h2.del ok q hq
  exact ⟨w', hr, ⟨_, ks', h3, h5⟩, (Chg.refl _ _).grown h4.grown (fun k e _ => by cases e; rfl)⟩
theorem GM.len (h : GM C w b n f) (ok : C.Ok) (ty : TypeId) : ∃ ks : List K, ks.Nodup ∧ (∀ q, (f q).isSome = true ↔ q ∈ ks) ∧ ks.length ≤ n ∧ (Builtin.len_ #[C.mt] ty #[.map (some b)]).run Try.prog w = .ok (.int .i64 (ks.length : Int)) w := by
  obtain ⟨D, ks, h1, h2⟩ := h
  refine ⟨ks, h2.nodup, h2.mem, by rw [← h2.len]; exact h1.size_le, ?_⟩
  rw [h1.len ok.und ty, h2.len]
end

/-! Lines, by keys. -/
/-- How a line lies. -/
structure LnV where
  hb : Option Nat
  hc : Nat
  has : List Wn
  wb : Option Nat
  wc : Nat
  waits : List Wn
def slV (b : Option Nat) (n c : Nat) : Value := .slice (b.map fun g => ⟨g, 0, none⟩) n c
def LnV.hv (l : LnV) : Value := slV l.hb l.has.length l.hc
def LnV.wv (l : LnV) : Value := slV l.wb l.waits.length l.wc
def LnV.v (l : LnV) : Value := .agg #[l.hv, l.wv]
def ln0 : LnV := ⟨none, 0, [], none, 0, []⟩
def slD (b : Option Nat) (n c : Nat) : DataW Unit := .agg [match b with | none => .nil | some g => .lit (.int .u64 (g : Int)), .lit (.int .u64 (n : Int)), .lit (.int .u64 (c : Int))]
def slR : Value → Option (DataW Unit)
  | .slice none n c => some (slD none n c)
  | .slice (some ⟨g, 0, none⟩) n c => some (slD (some g) n c)
  | _ => none
theorem slR_mk (b : Option Nat) (n c : Nat) : slR (slV b n c) = some (slD b n c) := by cases b <;> rfl
theorem slR_inv {v : Value} {b : Option Nat} {n c : Nat} (h : slR v = some (slD b n c)) : v = slV b n c := by
  unfold slR at h
  split at h
  · simp only [Option.some.injEq, slD, DataW.agg.injEq, List.cons.injEq, DataW.lit.injEq, Lit.int.injEq, true_and, and_true] at h
    obtain ⟨h1, h2, h3⟩ := h
    have e2 : n = _ := (Int.ofNat.inj h2).symm
    have e3 : c = _ := (Int.ofNat.inj h3).symm
    cases b with
    | none => subst e2 e3; rfl
    | some g => simp at h1
  · rename_i g n' c'
    simp only [Option.some.injEq, slD, DataW.agg.injEq, List.cons.injEq, DataW.lit.injEq, Lit.int.injEq, true_and, and_true] at h
    obtain ⟨h1, h2, h3⟩ := h
    have e2 : n = _ := (Int.ofNat.inj h2).symm
    have e3 : c = _ := (Int.ofNat.inj h3).symm
    cases b with
    | none => simp at h1
    | some g' =>
      simp only [DataW.lit.injEq, Lit.int.injEq, true_and] at h1
      have e1 : g' = g := (Int.ofNat.inj h1).symm
      subst e1 e2 e3; rfl
  · cases h
def lnR : Value → Option (DataW Unit × List MemPlace)
  | .agg cs => match cs.toList with
    | [a, b] => match slR a, slR b with
      | some x, some y => some (.agg [x, y], [])
      | _, _ => none
    | _ => none
  | _ => none
def lnD (l : LnV) : DataW Unit := .agg [slD l.hb l.has.length l.hc, slD l.wb l.waits.length l.wc]
theorem lnR_inv {v : Value} {l : LnV} {ps : List MemPlace} (h : lnR v = some (lnD l, ps)) : v = l.v := by
  unfold lnR at h
  split at h
  · rename_i cs
    split at h
    · rename_i a b hab
      split at h
      · rename_i x y hx hy
        simp only [Option.some.injEq, Prod.mk.injEq, lnD, DataW.agg.injEq, List.cons.injEq, and_true] at h
        obtain ⟨⟨h1, h2⟩, _⟩ := h
        subst h1 h2
        have e1 := slR_inv hx
        have e2 := slR_inv hy
        unfold LnV.v LnV.hv LnV.wv
        rw [← e1, ← e2]
        congr 1
        exact Array.toList_inj.1 hab
      · cases h
    · cases h
  · cases h
def eqS (q k : ByteArray) : Bool := q.data.toList == k.data.toList
theorem eqS_iff (q k : ByteArray) : eqS q k = true ↔ q = k := by
  unfold eqS
  rw [beq_iff_eq]
  constructor
  · intro h
    have : q.data = k.data := Array.toList_inj.1 h
    cases q; cases k; simp_all
  · rintro rfl; rfl
def klS (q : ByteArray) : Lit := .string q.data.toList
theorem klS_ne {q k : ByteArray} (h : q ≠ k) : klS q ≠ klS k := fun e => h (by
  unfold klS at e
  simp only [Lit.string.injEq] at e
  exact (eqS_iff q k).1 (by unfold eqS; rw [beq_iff_eq]; exact e))
def cLn : Cod ByteArray LnV := { kt := 9, et := 67, mt := 62, kv := fun k => .string k, kl := klS, wf := fun k => k.size ≤ maxLen, eqB := eqS, R := lnR, ev := LnV.v, ed := lnD, zero := ln0 }
theorem cLn_ok : cLn.Ok where
  eq := eqS_iff
  keyed := Maps.string_keyed Try.underlying9
  und := Try.underlying62
  key := fun k h => WideMaps.keyOf_string_mk Try.underlying9 h
  inj := fun q k _ _ h => klS_ne h
  lit := fun q => by first | trivial | exact ⟨⟩ | simp [cLn, klS, WideAt.IsKeyLit]
  rmk := fun l => by show lnR l.v = _; unfold lnR LnV.v LnV.hv LnV.wv; simp only [slR_mk]; rfl
  inv := fun v e ps h => lnR_inv h
  zv := fun w => by kernel_rfl

/-! Sets of keys. -/
def cSet : Cod ByteArray Unit := { kt := 9, et := 91, mt := 90, kv := fun k => .string k, kl := klS, wf := fun k => k.size ≤ maxLen, eqB := eqS, R := unitElem, ev := fun _ => .agg #[], ed := fun _ => .agg [], zero := () }
theorem cSet_ok : cSet.Ok where
  eq := eqS_iff
  keyed := Maps.string_keyed Try.underlying9
  und := Try.underlying90
  key := fun k h => WideMaps.keyOf_string_mk Try.underlying9 h
  inj := fun q k _ _ h => klS_ne h
  lit := fun q => by first | trivial | exact ⟨⟩ | simp [cSet, klS, WideAt.IsKeyLit]
  rmk := fun l => unitElem_mk
  inv := fun v e ps h => (unitElem_inv h).1
  zv := fun w => by kernel_rfl

/-! Sets, by transactions. -/
def setV : Option Nat → Value
  | none => .map none
  | some b => .map (some b)
def setD : Option Nat → DataW Unit
  | none => .nil
  | some b => .lit (.int .u64 (b : Int))
def setR : Value → Option (DataW Unit × List MemPlace)
  | .map none => some (.nil, [])
  | .map (some b) => some (.lit (.int .u64 (b : Int)), [])
  | _ => none
def klT (t : Td) : Lit := .string (keyBytes [.int .u64 t.num, .int .i64 t.node])
def Td.wf (t : Td) : Prop := (Lit.int .u64 t.num).wf = true ∧ (Lit.int .i64 t.node).wf = true
theorem laidP : laidOutB Try.prog = true := by kernel_rfl
theorem tidLaw : Maps.Keyed Try.prog 29 := Maps.Keyed.of_law (deep_law_laid laidP (m := 9) (by decide) (of_decide_eq_true (by kernel_rfl)) (by kernel_rfl) (by kernel_rfl))
theorem keyOf_pair {P : Program} {k : TypeId} {g0 g1 : Field} {s : Nat} {b c : Int} (hs : P.types.size = s + 2) (hK : P.keyType k = true) (hk : P.underlying k = some (.struct #[g0, g1])) (ck : P.cellsOf k = 2)
    (m0 : (g0.name != "_") = true) (m1 : (g1.name != "_") = true) (p0 : g0.offset = 0) (p1 : g1.offset = 1)
    (v0 : P.underlying g0.type = some (.int .u64)) (d0 : P.cellsOf g0.type = 1) (v1 : P.underlying g1.type = some (.int .i64)) (d1 : P.cellsOf g1.type = 1)
    (h2 : (Lit.int .u64 b).wf = true) (h3 : (Lit.int .i64 c).wf = true) :
    keyOf P k (.agg #[.int .u64 b, .int .i64 c]) = some (.string (keyBytes [.int .u64 b, .int .i64 c])) := by
  have t1 : ∀ d, P.keyLits (d + 1) g0.type [.int .u64 b] = some [.int .u64 b] := fun d => by simp [Program.keyLits, v0, h2]
  have t2 : ∀ d, P.keyLits (d + 1) g1.type [.int .i64 c] = some [.int .i64 c] := fun d => by simp [Program.keyLits, v1, h3]
  have hm : (#[g0, g1].all (·.name != "_")) = true := by simp only [List.all_toArray, List.all_cons, List.all_nil, m0, m1]; rfl
  have t3 : ∀ d, P.keyLits (d + 2) k [.int .u64 b, .int .i64 c] = some [.int .u64 b, .int .i64 c] := fun d => by
    unfold Program.keyLits
    simp only [hk, ck, hm, List.length_cons, List.length_nil, and_self, if_true, List.mapM_cons, List.mapM_nil, p0, p1, d0, d1, List.drop_zero, List.take_succ_cons, List.take_zero, List.drop_succ_cons, t1, t2]
    rfl
  have t4 : P.keyLits (s + 3) k [.int .u64 b, .int .i64 c] = some [.int .u64 b, .int .i64 c] := t3 (s + 1)
  simp [keyOf, hk, hK, Value.formed, ck, hs, Value.cells, t4]
theorem keyOf_tid (t : Td) (h : t.wf) : keyOf Try.prog 29 t.v = some (klT t) := by
  have h0 : decide (2 ≤ Try.prog.types.size) = true := by kernel_rfl
  have h0 := of_decide_eq_true h0
  obtain ⟨s, hs⟩ : ∃ s, Try.prog.types.size = s + 2 := ⟨Try.prog.types.size - 2, by omega⟩
  obtain ⟨h1, h2⟩ := h
  exact keyOf_pair hs (by kernel_rfl) Try.underlying29 (by kernel_rfl) rfl rfl rfl rfl Try.underlying27 (by kernel_rfl) Try.underlying3 (by kernel_rfl) h1 h2
theorem klT_ne {q k : Td} (hq : q.wf) (hk : k.wf) (h : q ≠ k) : klT q ≠ klT k := fun e => h (by
  have h1 := keyOf_tid q hq
  have h2 := keyOf_tid k hk
  rw [e] at h1
  have := tidLaw.inj h1 h2
  unfold Td.v at this
  simp only [Value.agg.injEq, Array.mk.injEq, List.cons.injEq, Value.int.injEq, true_and, and_true] at this
  exact Td.ext' this.1 this.2)
def cAs : Cod Td (Option Nat) := { kt := 29, et := 90, mt := 63, kv := Td.v, kl := klT, wf := Td.wf, eqB := eqT, R := setR, ev := setV, ed := setD, zero := none }
theorem cAs_ok : cAs.Ok where
  eq := fun _ _ => eqT_iff
  keyed := tidLaw
  und := Try.underlying63
  key := keyOf_tid
  inj := fun q k hq hk h => klT_ne hq hk h
  lit := fun q => by first | trivial | exact ⟨⟩ | simp [cAs, klT, WideAt.IsKeyLit]
  rmk := fun l => by cases l <;> rfl
  inv := fun v e ps h => by
    unfold cAs at h ⊢
    simp only at h ⊢
    unfold setR at h
    split at h
    · cases e with
      | none => rfl
      | some b => simp [setD] at h
    · rename_i b
      cases e with
      | none => simp [setD] at h
      | some b' =>
        simp only [setD, Option.some.injEq, Prod.mk.injEq, DataW.lit.injEq, Lit.int.injEq, true_and] at h
        have e1 : b = b' := Int.ofNat.inj h.1
        subst e1; rfl
    · cases h
  zv := fun w => by kernel_rfl
end Go.Proofs.Ytkgecljoodofeaa

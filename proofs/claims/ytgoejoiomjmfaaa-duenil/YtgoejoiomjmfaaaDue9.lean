/- The map from things to items. Own lemmas, no statement. -/
import Derived.Test.YtgoejoiomjmfaaaDue8
import Derived.Maps.OwnSet
import Derived.DeepKeys4
namespace Go.Proofs.Ytgoejoiomjmfaaa
open Go.ChangeShapes Go.WideShapes Go.ChangeAt Go.RowKit
open Go.Maps (IsMap Tidy has size)

/-- What an entry is known by. -/
structure Key where
  kind : Int
  num : Int
  node : Int
/-- Whether two are the same. -/
def keyEq : (q k : Key) → Decidable (q = k)
  | ⟨a, b, c⟩, ⟨d, e, f⟩ => if h : a = d ∧ b = e ∧ c = f then .isTrue (by rw [h.1, h.2.1, h.2.2]) else .isFalse (fun x => h (by injection x with h1 h2 h3; exact ⟨h1, h2, h3⟩))
def keyV (q : Key) : Value := .agg #[.int .i64 q.kind, .int .u64 q.num, .int .i64 q.node]
def Key.wf (q : Key) : Prop := (Lit.int .i64 q.kind).wf = true ∧ (Lit.int .u64 q.num).wf = true ∧ (Lit.int .i64 q.node).wf = true
def klq (q : Key) : Lit := .string (keyBytes [.int .i64 q.kind, .int .u64 q.num, .int .i64 q.node])

theorem laidP : laidOutB Try.prog = true := by kernel_rfl
theorem thingLaw : Maps.Keyed Try.prog 55 := Maps.Keyed.of_law (deep_law_laid laidP (m := 9) (by decide) (of_decide_eq_true (by kernel_rfl)) (by kernel_rfl) (by kernel_rfl))
theorem cells55 : Try.prog.cellsOf 55 = 3 := by kernel_rfl
theorem cells29 : Try.prog.cellsOf 29 = 2 := by kernel_rfl
theorem cells32 : Try.prog.cellsOf 32 = 1 := by kernel_rfl
theorem cells64 : Try.prog.cellsOf 27 = 1 := by kernel_rfl
theorem cells3 : Try.prog.cellsOf 3 = 1 := by kernel_rfl
theorem keyOf_two {P : Program} {k : TypeId} {f0 f1 g0 g1 : Field} {s : Nat} {a b c : Int} (hs : P.types.size = s + 2) (hK : P.keyType k = true) (hk : P.underlying k = some (.struct #[f0, f1])) (ck : P.cellsOf k = 3) (n0 : (f0.name != "_") = true) (n1 : (f1.name != "_") = true) (o0 : f0.offset = 0) (o1 : f1.offset = 1)
    (u0 : P.underlying f0.type = some (.int .i64)) (c0 : P.cellsOf f0.type = 1) (u1 : P.underlying f1.type = some (.struct #[g0, g1])) (c1 : P.cellsOf f1.type = 2) (m0 : (g0.name != "_") = true) (m1 : (g1.name != "_") = true) (p0 : g0.offset = 0) (p1 : g1.offset = 1)
    (v0 : P.underlying g0.type = some (.int .u64)) (d0 : P.cellsOf g0.type = 1) (v1 : P.underlying g1.type = some (.int .i64)) (d1 : P.cellsOf g1.type = 1)
    (h1 : (Lit.int .i64 a).wf = true) (h2 : (Lit.int .u64 b).wf = true) (h3 : (Lit.int .i64 c).wf = true) :
    keyOf P k (.agg #[.int .i64 a, .int .u64 b, .int .i64 c]) = some (.string (keyBytes [.int .i64 a, .int .u64 b, .int .i64 c])) := by
  have t1 : ∀ d, P.keyLits (d + 1) g0.type [.int .u64 b] = some [.int .u64 b] := fun d => by simp [Program.keyLits, v0, h2]
  have t2 : ∀ d, P.keyLits (d + 1) g1.type [.int .i64 c] = some [.int .i64 c] := fun d => by simp [Program.keyLits, v1, h3]
  have t0 : ∀ d, P.keyLits (d + 1) f0.type [.int .i64 a] = some [.int .i64 a] := fun d => by simp [Program.keyLits, u0, h1]
  have hm : (#[g0, g1].all (·.name != "_")) = true := by simp only [List.all_toArray, List.all_cons, List.all_nil, m0, m1]; rfl
  have hn : (#[f0, f1].all (·.name != "_")) = true := by simp only [List.all_toArray, List.all_cons, List.all_nil, n0, n1]; rfl
  have t3 : ∀ d, P.keyLits (d + 2) f1.type [.int .u64 b, .int .i64 c] = some [.int .u64 b, .int .i64 c] := fun d => by
    unfold Program.keyLits
    simp only [u1, c1, hm, List.length_cons, List.length_nil, and_self, if_true, List.mapM_cons, List.mapM_nil, p0, p1, d0, d1, List.drop_zero, List.take_succ_cons, List.take_zero, List.drop_succ_cons, t1, t2]
    rfl
  have t4 : P.keyLits (s + 3) k [.int .i64 a, .int .u64 b, .int .i64 c] = some [.int .i64 a, .int .u64 b, .int .i64 c] := by
    unfold Program.keyLits
    simp only [hk, ck, hn, List.length_cons, List.length_nil, and_self, if_true, List.mapM_cons, List.mapM_nil, o0, o1, c0, c1, List.drop_zero, List.take_succ_cons, List.take_zero, List.drop_succ_cons, t0, t3]
    rfl
  simp [keyOf, hk, hK, Value.formed, ck, hs, Value.cells, t4]
theorem keyOf_thing (q : Key) (h : q.wf) : keyOf Try.prog 55 (keyV q) = some (klq q) := by
  have h0 : decide (2 ≤ Try.prog.types.size) = true := by kernel_rfl
  have h0 := of_decide_eq_true h0
  obtain ⟨s, hs⟩ : ∃ s, Try.prog.types.size = s + 2 := ⟨Try.prog.types.size - 2, by omega⟩
  obtain ⟨h1, h2, h3⟩ := h
  exact keyOf_two hs (by kernel_rfl) Try.underlying55 cells55 rfl rfl rfl rfl Try.underlying32 cells32 Try.underlying29 cells29 rfl rfl rfl rfl Try.underlying27 cells64 Try.underlying3 cells3 h1 h2 h3
theorem klq_ne {q k : Key} (hq : q.wf) (hk : k.wf) (h : q ≠ k) : klq q ≠ klq k := fun e => h (by
  have h1 := keyOf_thing q hq
  have h2 := keyOf_thing k hk
  rw [e] at h1
  have := thingLaw.inj h1 h2
  unfold keyV at this
  simp only [Value.agg.injEq, Array.mk.injEq, List.cons.injEq, Value.int.injEq, true_and, and_true] at this
  obtain ⟨a1, a2, a3⟩ := this
  cases q; cases k; simp_all)
theorem klq_key (q : Key) : WideAt.IsKeyLit (klq q) := by first | trivial | exact ⟨⟩ | simp [klq, WideAt.IsKeyLit]

/-- How a pointer to an item reads: by its block's number. -/
def ptrElem (v : Value) : Option (DataW Unit × List MemPlace) :=
  match v with
  | .pointer none => some (.nil, [])
  | .pointer (some ⟨b, 0, none⟩) => some (.lit (.int .u64 (b : Int)), [])
  | _ => none
theorem ptrElem_mk (b : Nat) : ptrElem (iptr b) = some (.lit (.int .u64 (b : Int)), []) := rfl
theorem ptrElem_nil : ptrElem (.pointer none) = some (.nil, []) := rfl
theorem ptrElem_inv {v : Value} {b : Nat} {ps : List MemPlace} (h : ptrElem v = some (.lit (.int .u64 (b : Int)), ps)) : v = iptr b := by
  unfold ptrElem at h
  split at h
  · simp at h
  · rename_i b'
    simp at h
    obtain ⟨h, _⟩ := h
    unfold iptr
    congr 4
    omega
  · cases h
theorem ptrElem_invNil {v : Value} {ps : List MemPlace} (h : ptrElem v = some (.nil, ps)) : v = .pointer none := by
  unfold ptrElem at h
  split at h
  · rfl
  · simp at h
  · cases h

/-- The map has what f has. -/
def MapOf (D : DataW Unit) (f : Key → Option Nat) : Prop := Tidy D ∧ ∀ q : Key, q.wf → has D (klq q) = (f q).isSome ∧ ∀ z, D.atKey (klq q) z = match f q with | some b => .lit (.int .u64 (b : Int)) | none => z
def putF (f : Key → Option Nat) (k : Key) (b : Nat) : Key → Option Nat := fun q => @ite _ (q = k) (keyEq q k) (some b) (f q)
def delF (f : Key → Option Nat) (k : Key) : Key → Option Nat := fun q => @ite _ (q = k) (keyEq q k) none (f q)
theorem MapOf.nil : MapOf (.map []) (fun _ => none) := ⟨Maps.tidy_empty, fun _ _ => ⟨rfl, fun _ => rfl⟩⟩
theorem MapOf.put {D : DataW Unit} {f : Key → Option Nat} (h : MapOf D f) (k : Key) (hk : k.wf) (b : Nat) : MapOf (D.put (klq k) (.lit (.int .u64 (b : Int)))) (putF f k b) := by
  obtain ⟨h1, h3⟩ := h
  refine ⟨h1.put (klq_key k) _, fun q hqw => ?_⟩
  by_cases hq : q = k
  · subst hq
    unfold putF
    rw [if_pos rfl]
    exact ⟨Maps.has_put_same h1.isMap (klq_key q) _, fun z => Maps.atKey_put_same h1.isMap (klq_key q) _ z⟩
  · unfold putF
    rw [if_neg hq]
    exact ⟨by rw [Maps.has_put_other (klq_ne hqw hk hq)]; exact (h3 q hqw).1, fun z => by rw [Maps.atKey_put_other (klq_ne hqw hk hq)]; exact (h3 q hqw).2 z⟩
theorem MapOf.del {D : DataW Unit} {f : Key → Option Nat} (h : MapOf D f) (k : Key) (hk : k.wf) : MapOf (D.del (klq k)) (delF f k) := by
  obtain ⟨h1, h3⟩ := h
  refine ⟨h1.del _, fun q hqw => ?_⟩
  by_cases hq : q = k
  · subst hq
    unfold delF
    rw [if_pos rfl]
    exact ⟨Maps.has_del_same, fun z => Maps.atKey_del_same z⟩
  · unfold delF
    rw [if_neg hq]
    exact ⟨by rw [Maps.has_del_other (klq_ne hqw hk hq)]; exact (h3 q hqw).1, fun z => by rw [Maps.atKey_del_other (klq_ne hqw hk hq)]; exact (h3 q hqw).2 z⟩

/-- Block b is a Go map that has what f has; n stores were made. -/
def GMap (w : World) (b n : Nat) (f : Key → Option Nat) : Prop := ∃ D : DataW Unit, w.ownsMap Try.prog 55 ptrElem b n D ∧ MapOf D f
theorem GMap.made (w : World) : GMap (w.alloc (.map #[] 0)) w.heap.size 0 (fun _ => none) := ⟨_, World.ownsMap_made w _ _ _, MapOf.nil⟩
theorem GMap.isMap {w : World} {b n : Nat} {f : Key → Option Nat} (h : GMap w b n f) : ∃ es c, w.heap[b]? = some (.map es c) := by
  obtain ⟨D, ⟨es, c, hh, _⟩, _⟩ := h
  exact ⟨es, c, hh⟩
theorem GMap.lt {w : World} {b n : Nat} {f : Key → Option Nat} (h : GMap w b n f) : b < w.heap.size := by
  obtain ⟨es, c, hh⟩ := h.isMap
  exact (Array.getElem?_eq_some_iff.1 hh).1
theorem GMap.chg {S : Nat → Prop} {w w' : World} {b n : Nat} {f : Key → Option Nat} (h : GMap w b n f) (k : Chg S w w') (hn : ¬ S b) : GMap w' b n f := by
  have hlt := h.lt
  obtain ⟨D, ⟨es, c, hh, r⟩, h2⟩ := h
  exact ⟨D, ⟨es, c, (k.block b hlt hn).trans hh, r⟩, h2⟩
theorem GMap.drew {w : World} {b n : Nat} {f : Key → Option Nat} (h : GMap w b n f) : GMap w.drew b n f := h
theorem GMap.ne {w : World} {b b' n : Nat} {f : Key → Option Nat} {c : Array Value} {T : TypeId} (h : GMap w b n f) (hb : Blk w b' c T) : b ≠ b' := by
  rintro rfl
  obtain ⟨es, c', hh⟩ := h.isMap
  unfold Blk at hb
  rw [hh] at hb
  cases hb
theorem zeroP (w : World) : (zeroValue 56).run Try.prog w = .ok (.pointer none) w := by kernel_rfl
end Go.Proofs.Ytgoejoiomjmfaaa

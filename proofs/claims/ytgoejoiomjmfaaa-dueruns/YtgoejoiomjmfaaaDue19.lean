/- Maps whose keys are entries. Own lemmas, no statement. -/
import Derived.Test.YtgoejoiomjmfaaaEnts
import Derived.Test.YtgoejoiomjmfaaaWDueMoves
import Derived.Maps.RangeWalk
namespace Go.Proofs.Ytgoejoiomjmfaaa
open Go.ChangeShapes Go.WideShapes Go.ChangeAt Go.RowKit
open Go.Maps (IsMap Tidy has size)

section
variable {P : Program} {k : TypeId} {f0 f1 f2 g0 g1 : Field} {s : Nat}
theorem keyOf_three {a b c d : Int} (hs : P.types.size = s + 2) (hK : P.keyType k = true) (hk : P.underlying k = some (.struct #[f0, f1, f2])) (ck : P.cellsOf k = 4) (n0 : (f0.name != "_") = true) (n1 : (f1.name != "_") = true) (n2 : (f2.name != "_") = true) (o0 : f0.offset = 0) (o1 : f1.offset = 1) (o2 : f2.offset = 2)
    (u0 : P.underlying f0.type = some (.int .i64)) (c0 : P.cellsOf f0.type = 1) (u1 : P.underlying f1.type = some (.int .i64)) (c1 : P.cellsOf f1.type = 1) (u2 : P.underlying f2.type = some (.struct #[g0, g1])) (c2 : P.cellsOf f2.type = 2) (m0 : (g0.name != "_") = true) (m1 : (g1.name != "_") = true) (p0 : g0.offset = 0) (p1 : g1.offset = 1)
    (v0 : P.underlying g0.type = some (.int .u64)) (d0 : P.cellsOf g0.type = 1) (v1 : P.underlying g1.type = some (.int .i64)) (d1 : P.cellsOf g1.type = 1)
    (h0 : (Lit.int .i64 a).wf = true) (h1 : (Lit.int .i64 b).wf = true) (h2 : (Lit.int .u64 c).wf = true) (h3 : (Lit.int .i64 d).wf = true) :
    keyOf P k (.agg #[.int .i64 a, .int .i64 b, .int .u64 c, .int .i64 d]) = some (.string (keyBytes [.int .i64 a, .int .i64 b, .int .u64 c, .int .i64 d])) := by
  have t1 : ∀ x, P.keyLits (x + 1) g0.type [.int .u64 c] = some [.int .u64 c] := fun x => by simp [Program.keyLits, v0, h2]
  have t2 : ∀ x, P.keyLits (x + 1) g1.type [.int .i64 d] = some [.int .i64 d] := fun x => by simp [Program.keyLits, v1, h3]
  have t0 : ∀ x, P.keyLits (x + 1) f0.type [.int .i64 a] = some [.int .i64 a] := fun x => by simp [Program.keyLits, u0, h0]
  have t5 : ∀ x, P.keyLits (x + 1) f1.type [.int .i64 b] = some [.int .i64 b] := fun x => by simp [Program.keyLits, u1, h1]
  have hm : (#[g0, g1].all (·.name != "_")) = true := by simp only [List.all_toArray, List.all_cons, List.all_nil, m0, m1]; rfl
  have hn : (#[f0, f1, f2].all (·.name != "_")) = true := by simp only [List.all_toArray, List.all_cons, List.all_nil, n0, n1, n2]; rfl
  have t3 : ∀ x, P.keyLits (x + 2) f2.type [.int .u64 c, .int .i64 d] = some [.int .u64 c, .int .i64 d] := fun x => by
    unfold Program.keyLits
    simp only [u2, c2, hm, List.length_cons, List.length_nil, and_self, if_true, List.mapM_cons, List.mapM_nil, p0, p1, d0, d1, List.drop_zero, List.take_succ_cons, List.take_zero, List.drop_succ_cons, t1, t2]
    rfl
  have t4 : P.keyLits (s + 3) k [.int .i64 a, .int .i64 b, .int .u64 c, .int .i64 d] = some [.int .i64 a, .int .i64 b, .int .u64 c, .int .i64 d] := by
    unfold Program.keyLits
    simp only [hk, ck, hn, List.length_cons, List.length_nil, and_self, if_true, List.mapM_cons, List.mapM_nil, o0, o1, o2, c0, c1, c2, List.drop_zero, List.take_succ_cons, List.take_zero, List.drop_succ_cons, t0, t5, t3]
    rfl
  simp [keyOf, hk, hK, Value.formed, ck, hs, Value.cells, t4]
theorem keyLits_int {t : TypeId} {q : IntKind} {x : Nat} {v : Value} {ls : List Lit} (hu : P.underlying t = some (.int q)) (h : P.keyLits x t [v] = some ls) : ∃ n, v = .int q n ∧ (Lit.int q n).wf = true := by
  rcases x with _ | x
  · simp [Program.keyLits] at h
  · unfold Program.keyLits at h
    rw [hu] at h
    cases v <;> simp at h
    rename_i q' n
    obtain ⟨⟨rfl, hw⟩, _⟩ := h
    exact ⟨n, rfl, hw⟩
theorem keyOf_three_inv {v : Value} {kl : Lit} (hk : P.underlying k = some (.struct #[f0, f1, f2])) (ck : P.cellsOf k = 4) (o0 : f0.offset = 0) (o1 : f1.offset = 1) (o2 : f2.offset = 2)
    (u0 : P.underlying f0.type = some (.int .i64)) (c0 : P.cellsOf f0.type = 1) (u1 : P.underlying f1.type = some (.int .i64)) (c1 : P.cellsOf f1.type = 1) (u2 : P.underlying f2.type = some (.struct #[g0, g1])) (c2 : P.cellsOf f2.type = 2) (p0 : g0.offset = 0) (p1 : g1.offset = 1)
    (v0 : P.underlying g0.type = some (.int .u64)) (d0 : P.cellsOf g0.type = 1) (v1 : P.underlying g1.type = some (.int .i64)) (d1 : P.cellsOf g1.type = 1) (h : keyOf P k v = some kl) :
    ∃ a b c d : Int, v = .agg #[.int .i64 a, .int .i64 b, .int .u64 c, .int .i64 d] ∧ (Lit.int .i64 a).wf = true ∧ (Lit.int .i64 b).wf = true ∧ (Lit.int .u64 c).wf = true ∧ (Lit.int .i64 d).wf = true := by
  unfold keyOf at h
  rw [hk] at h
  simp only at h
  split at h
  · rename_i hf
    simp only [Bool.and_eq_true] at hf
    obtain ⟨_, hf⟩ := hf
    cases v <;> simp [Value.formed, hk] at hf
    rename_i cs
    rw [ck] at hf
    obtain ⟨l⟩ := cs
    match l, hf with
    | [x0, x1, x2, x3], _ =>
      simp only [Value.cells] at h
      cases hl : P.keyLits (P.types.size + 1) k [x0, x1, x2, x3] with
      | none => rw [hl] at h; cases h
      | some ls =>
        unfold Program.keyLits at hl
        rw [hk] at hl
        simp only [ck, List.length_cons, List.length_nil, List.mapM_cons, List.mapM_nil, o0, o1, o2, c0, c1, c2, List.drop_zero, List.take_succ_cons, List.take_zero, List.drop_succ_cons] at hl
        split at hl
        · cases e0 : P.keyLits P.types.size f0.type [x0] with
          | none => rw [e0] at hl; cases hl
          | some l0 =>
            cases e1 : P.keyLits P.types.size f1.type [x1] with
            | none => rw [e0, e1] at hl; cases hl
            | some l1 =>
              cases e2 : P.keyLits P.types.size f2.type [x2, x3] with
              | none => rw [e0, e1, e2] at hl; cases hl
              | some l2 =>
                obtain ⟨a, rfl, wa⟩ := keyLits_int u0 e0
                obtain ⟨b, rfl, wb⟩ := keyLits_int u1 e1
                generalize P.types.size = sz at e2
                rcases sz with _ | sz
                · simp [Program.keyLits] at e2
                · unfold Program.keyLits at e2
                  rw [u2] at e2
                  simp only [c2, List.length_cons, List.length_nil, List.mapM_cons, List.mapM_nil, p0, p1, d0, d1, List.drop_zero, List.take_succ_cons, List.take_zero, List.drop_succ_cons] at e2
                  split at e2
                  · cases e3 : P.keyLits sz g0.type [x2] with
                    | none => rw [e3] at e2; cases e2
                    | some l3 =>
                      cases e4 : P.keyLits sz g1.type [x3] with
                      | none => rw [e3, e4] at e2; cases e2
                      | some l4 =>
                        obtain ⟨c, rfl, wc⟩ := keyLits_int v0 e3
                        obtain ⟨d, rfl, wd⟩ := keyLits_int v1 e4
                        exact ⟨a, b, c, d, rfl, wa, wb, wc, wd⟩
                  · cases e2
        · cases hl
  · cases h
end

def eV (e : Ent) : Value := .agg #[.int .i64 e.at_, .int .i64 e.kind, .int .u64 e.num, .int .i64 e.node]
def Ent.wf (e : Ent) : Prop := (Lit.int .i64 e.at_).wf = true ∧ e.key.wf
def kle (e : Ent) : Lit := .string (keyBytes [.int .i64 e.at_, .int .i64 e.kind, .int .u64 e.num, .int .i64 e.node])
theorem entLaw : Maps.Keyed Try.prog 34 := Maps.Keyed.of_law (deep_law_laid laidP (m := 9) (by decide) (of_decide_eq_true (by kernel_rfl)) (by kernel_rfl) (by kernel_rfl))
theorem cells34 : Try.prog.cellsOf 34 = 4 := by kernel_rfl
theorem keyOf_ent (e : Ent) (h : e.wf) : keyOf Try.prog 34 (eV e) = some (kle e) := by
  have h0 : decide (2 ≤ Try.prog.types.size) = true := by kernel_rfl
  have h0 := of_decide_eq_true h0
  obtain ⟨s, hs⟩ : ∃ s, Try.prog.types.size = s + 2 := ⟨Try.prog.types.size - 2, by omega⟩
  obtain ⟨hh, h1, h2, h3⟩ := h
  exact keyOf_three hs (by kernel_rfl) Try.underlying34 cells34 rfl rfl rfl rfl rfl rfl Try.underlying3 cells3 Try.underlying32 cells32 Try.underlying29 cells29 rfl rfl rfl rfl Try.underlying27 cells64 Try.underlying3 cells3 hh h1 h2 h3
theorem keyOf_ent_inv {v : Value} {kl : Lit} (h : keyOf Try.prog 34 v = some kl) : ∃ e : Ent, e.wf ∧ v = eV e ∧ kl = kle e := by
  obtain ⟨a, b, c, d, rfl, wa, wb, wc, wd⟩ := keyOf_three_inv Try.underlying34 cells34 rfl rfl rfl Try.underlying3 cells3 Try.underlying32 cells32 Try.underlying29 cells29 rfl rfl Try.underlying27 cells64 Try.underlying3 cells3 h
  refine ⟨⟨a, b, c, d⟩, ⟨wa, wb, wc, wd⟩, rfl, ?_⟩
  have := keyOf_ent ⟨a, b, c, d⟩ ⟨wa, wb, wc, wd⟩
  rw [show Value.agg #[.int .i64 a, .int .i64 b, .int .u64 c, .int .i64 d] = eV ⟨a, b, c, d⟩ from rfl, this] at h
  exact (Option.some.inj h).symm
theorem kle_ne {q k : Ent} (hq : q.wf) (hk : k.wf) (h : q ≠ k) : kle q ≠ kle k := fun e => h (by
  have h1 := keyOf_ent q hq
  have h2 := keyOf_ent k hk
  rw [e] at h1
  have := entLaw.inj h1 h2
  unfold eV at this
  simp only [Value.agg.injEq, Array.mk.injEq, List.cons.injEq, Value.int.injEq, true_and, and_true] at this
  obtain ⟨a1, a2, a3, a4⟩ := this
  cases q; cases k; simp_all)
theorem kle_key (q : Ent) : WideAt.IsKeyLit (kle q) := by first | trivial | exact ⟨⟩ | simp [kle, WideAt.IsKeyLit]

/-- How a bool reads. -/
def boolElem (v : Value) : Option (DataW Unit × List MemPlace) :=
  match v with
  | .bool b => some (.lit (.bool b), [])
  | _ => none
theorem boolElem_inv {v : Value} {y : DataW Unit × List MemPlace} (h : boolElem v = some y) : ∃ b, v = .bool b ∧ y = (.lit (.bool b), []) := by
  unfold boolElem at h
  split at h
  · rename_i b
    cases h
    exact ⟨b, rfl, rfl⟩
  · cases h

/-- The map has the entries that T tells, all true, and as many as n. -/
structure MapT (D : DataW Unit) (n : Nat) (T : Key → Option Int) : Prop where
  tidy : Tidy D
  size : size D = n
  has : ∀ e : Ent, e.wf → has D (kle e) = decide (T e.key = some e.at_)
  at_ : ∀ e : Ent, e.wf → T e.key = some e.at_ → ∀ z, D.atKey (kle e) z = .lit (.bool true)
theorem MapT.nil : MapT (.map []) 0 (fun _ => none) := ⟨Maps.tidy_empty, rfl, fun e _ => by simp [Maps.has], fun e _ h => (by cases h)⟩
theorem MapT.del {D : DataW Unit} {n : Nat} {T : Key → Option Int} (h : MapT D n T) (e : Ent) (hw : e.wf) (ht : T e.key = some e.at_) : MapT (D.del (kle e)) (n - 1) (delT T e.key) := by
  have hh := h.has e hw
  rw [ht] at hh
  simp only [decide_true] at hh
  refine ⟨h.tidy.del _, ?_, fun x hx => ?_, fun x hx hT z => ?_⟩
  · have := Maps.size_del (k := kle e) h.tidy
    rw [hh, if_pos rfl, h.size] at this
    omega
  · unfold delT
    by_cases hxe : x = e
    · subst hxe
      rw [Maps.has_del_same, if_pos rfl]
      simp
    · rw [Maps.has_del_other (kle_ne hx hw hxe), h.has x hx]
      by_cases hk : x.key = e.key
      · rw [if_pos hk, hk, ht]
        have : e.at_ ≠ x.at_ := fun ha => hxe (by
          rw [← entOf_self x, ← entOf_self e, hk, ha])
        simp [this]
      · rw [if_neg hk]
  · unfold delT at hT
    split at hT
    · cases hT
    · rename_i hk
      rw [Maps.atKey_del_other (kle_ne hx hw (fun h => hk (by rw [h])))]
      exact h.at_ x hx hT z
theorem MapT.put {D : DataW Unit} {n : Nat} {T : Key → Option Int} (h : MapT D n T) (e : Ent) (hw : e.wf) (ht : T e.key = none) : MapT (D.put (kle e) (.lit (.bool true))) (n + 1) (putT T e.key e.at_) := by
  have hh := h.has e hw
  rw [ht] at hh
  refine ⟨h.tidy.put (kle_key e) _, ?_, fun x hx => ?_, fun x hx hT z => ?_⟩
  · rw [Maps.size_put h.tidy, hh, h.size]
    simp
  · unfold putT
    by_cases hxe : x = e
    · subst hxe
      rw [Maps.has_put_same h.tidy.isMap (kle_key x), if_pos rfl]
      simp
    · rw [Maps.has_put_other (kle_ne hx hw hxe), h.has x hx]
      by_cases hk : x.key = e.key
      · rw [if_pos hk, hk, ht]
        have : e.at_ ≠ x.at_ := fun ha => hxe (by
          rw [← entOf_self x, ← entOf_self e, hk, ha])
        simp [this]
      · rw [if_neg hk]
  · by_cases hxe : x = e
    · subst hxe
      exact Maps.atKey_put_same h.tidy.isMap (kle_key x) _ z
    · rw [Maps.atKey_put_other (kle_ne hx hw hxe)]
      unfold putT at hT
      split at hT
      · rename_i hk
        have ha : e.at_ = x.at_ := by simpa using hT
        exact absurd (by rw [← entOf_self x, ← entOf_self e, hk, ha]) hxe
      · exact h.at_ x hx hT z
theorem ranges_has {w : World} {R : Value → Option (DataW Unit × List MemPlace)} {b r n cnt : Nat} {D : DataW Unit} {left : Lit → Bool} (h : w.ranges Try.prog 34 R b r n D left cnt) {kl : Lit} (hl : left kl = true) : has D kl = true := by
  obtain ⟨es, clock, since, seen, c0, hb, F, hs, rfl, hr, hold, hc, hl1, hl2, _⟩ := h
  obtain ⟨x, hx, rfl⟩ := hl2 kl hl
  obtain ⟨y, hy⟩ := F.reads x hx
  exact List.any_eq_true.2 ⟨WideElems.rg Try.prog 34 R x, mem_sorted.2 (List.mem_map.2 ⟨x, hx, rfl⟩), WideAt.sameKey_self (by rw [WideElems.rg_of hy]; exact entLaw.key (WideElems.rd_key hy))⟩
end Go.Proofs.Ytgoejoiomjmfaaa

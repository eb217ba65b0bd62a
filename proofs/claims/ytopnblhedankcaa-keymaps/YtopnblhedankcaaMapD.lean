/- A Go map of texts that a call made, beside a list of pairs in rising order; slices of the law's own operations. Own lemmas, no statement. -/
import Derived.Test.YtopnblhedankcaaMaps2
import Derived.Test.YtopnblhedankcaaGet
import Derived.Test.YtopnblhedankcaaSame
import Derived.Test.YtopnblhedankcaaOpen
import Derived.Test.YtopnblhedankcaaHome
import Derived.Maps.OwnSet
namespace Go.Proofs.Ytopnblhedankcaa
open Go.ChangeShapes Go.WideShapes Go.ChangeAt Go.RowKit
open Go.Maps (IsMap Tidy has size)

theorem ins_len (k v : ByteArray) (m : List KV) : (ins k v m).length = if (getK k m).isSome then m.length else m.length + 1 := by
  induction m with
  | nil => rfl
  | cons p t ih =>
    rcases ltK_cases p.1 k with ⟨h1, h2⟩ | ⟨h1, h2⟩ | h
    · simp only [ins, getK, h1, if_true, List.length_cons, ih]
      split <;> rfl
    · simp [ins, getK, h1, h2]
    · simp [ins, getK, h, ltK_irrefl]
theorem del_len (k : ByteArray) (m : List KV) : (del k m).length + (if (getK k m).isSome then 1 else 0) = m.length := by
  induction m with
  | nil => rfl
  | cons p t ih =>
    rcases ltK_cases p.1 k with ⟨h1, h2⟩ | ⟨h1, h2⟩ | h
    · simp only [del, getK, h1, if_true, List.length_cons]
      omega
    · simp [del, getK, h1, h2]
    · simp [del, getK, h, ltK_irrefl]
theorem getK_del_ne (k q : ByteArray) (h : q ≠ k) (m : List KV) (hr : Rising m) : getK q (del k m) = getK q m := by
  induction m with
  | nil => rfl
  | cons p t ih =>
    unfold Rising at hr
    rw [List.pairwise_cons] at hr
    rcases ltK_cases p.1 k with ⟨h1, h2⟩ | ⟨h1, h2⟩ | hk
    · simp [del, getK, h1, ih hr.2]
    · simp [del, h1, h2]
    · subst hk
      rcases ltK_cases p.1 q with ⟨q1, q2⟩ | ⟨q1, q2⟩ | h'
      · simp [del, getK, ltK_irrefl, q1]
      · rw [show del p.1 (p :: t) = t by simp [del, ltK_irrefl], getK_above q t (fun x hx => ltK_trans q1 (hr.1 x hx))]
        simp [getK, q1, q2]
      · exact absurd h'.symm h
theorem getK_get (m : List KV) (hr : Rising m) (i : Nat) (hi : i < m.length) : getK m[i].1 m = some m[i].2 := by
  induction m generalizing i with
  | nil => simp at hi
  | cons p t ih =>
    unfold Rising at hr
    rw [List.pairwise_cons] at hr
    cases i with
    | zero => simp [getK, ltK_irrefl]
    | succ i =>
      have hi' : i < t.length := by simpa using hi
      have h1 := hr.1 t[i] (List.getElem_mem _)
      simp only [List.getElem_cons_succ, getK, h1, if_true]
      exact ih hr.2 i hi'

def kl (q : ByteArray) : Lit := .string q.data.toList
theorem kl_ne {q k : ByteArray} (h : q ≠ k) : kl q ≠ kl k := fun e => h (by
  unfold kl at e
  simp only [Lit.string.injEq] at e
  refine toList_inj ?_
  rw [ByteArray.toList_eq, ByteArray.toList_eq]; exact e)
theorem kl_key (q : ByteArray) : WideAt.IsKeyLit (kl q) := by first | trivial | exact ⟨⟩ | simp [kl, WideAt.IsKeyLit]

/-- The map has what the list has. -/
def MapOf (D : DataW Unit) (m : List KV) : Prop := Tidy D ∧ size D = m.length ∧ ∀ q, has D (kl q) = (getK q m).isSome ∧ ∀ z, D.atKey (kl q) z = match getK q m with | some v => .lit (.string v.data.toList) | none => z
theorem MapOf.nil : MapOf (.map []) [] := ⟨Maps.tidy_empty, rfl, fun _ => ⟨rfl, fun _ => rfl⟩⟩
theorem MapOf.put {D : DataW Unit} {m : List KV} (h : MapOf D m) (k v : ByteArray) : MapOf (D.put (kl k) (.lit (.string v.data.toList))) (ins k v m) := by
  obtain ⟨h1, h2, h3⟩ := h
  refine ⟨h1.put (kl_key k) _, ?_, fun q => ?_⟩
  · rw [Maps.size_put h1, (h3 k).1, ins_len, h2]
  · by_cases hq : q = k
    · subst hq
      rw [getK_ins]
      exact ⟨Maps.has_put_same h1.isMap (kl_key q) _, fun z => Maps.atKey_put_same h1.isMap (kl_key q) _ z⟩
    · rw [getK_ins_ne k v q hq]
      exact ⟨by rw [Maps.has_put_other (kl_ne hq)]; exact (h3 q).1, fun z => by rw [Maps.atKey_put_other (kl_ne hq)]; exact (h3 q).2 z⟩
theorem MapOf.del {D : DataW Unit} {m : List KV} (h : MapOf D m) (hr : Rising m) (k : ByteArray) : MapOf (D.del (kl k)) (del k m) := by
  obtain ⟨h1, h2, h3⟩ := h
  refine ⟨h1.del _, ?_, fun q => ?_⟩
  · have e1 := Maps.size_del (k := kl k) h1
    have e2 := del_len k m
    rw [(h3 k).1] at e1
    omega
  · by_cases hq : q = k
    · subst hq
      rw [getK_del q m hr]
      exact ⟨Maps.has_del_same, fun z => Maps.atKey_del_same z⟩
    · rw [getK_del_ne k q hq m hr]
      exact ⟨by rw [Maps.has_del_other (kl_ne hq)]; exact (h3 q).1, fun z => by rw [Maps.atKey_del_other (kl_ne hq)]; exact (h3 q).2 z⟩

/-- Block b is a Go map of texts that has what the list has. -/
def GMap (w : World) (b n : Nat) (m : List KV) : Prop := ∃ D : DataW Unit, w.ownsMap Try.prog 9 (plainElem Try.prog 9) b n D ∧ MapOf D m
theorem GMap.made (w : World) : GMap (w.alloc (.map #[] 0)) w.heap.size 0 [] := ⟨_, World.ownsMap_made w _ _ _, MapOf.nil⟩
theorem GMap.below {w w' : World} {b n : Nat} {m : List KV} (h : GMap w b n m) (hb : Below w.heap.size w w') : GMap w' b n m := by
  obtain ⟨D, h1, h2⟩ := h
  have hlt := h1.lt
  obtain ⟨es, clock, hh, r⟩ := h1
  exact ⟨D, ⟨es, clock, (hb.block b hlt).trans hh, r⟩, h2⟩
theorem GMap.grown {w w' : World} {b n : Nat} {m : List KV} {row : Option Nat} (h : GMap w b n m) (hg : w.grownBy w' row) (hne : row ≠ some b) : GMap w' b n m := by
  obtain ⟨D, h1, h2⟩ := h
  exact ⟨D, h1.kept hg (fun e => hne e.symm), h2⟩
theorem GMap.lt {w : World} {b n : Nat} {m : List KV} (h : GMap w b n m) : b < w.heap.size := by
  obtain ⟨D, h1, _⟩ := h
  exact h1.lt

theorem zeroS (w : World) : (zeroValue 9).run Try.prog w = .ok (.string ByteArray.empty) w := by kernel_rfl

section
variable {ops : Array Oper} {rest : List Oper} {o : Oper} {a : Act} {Q : Exit → Act → World → Prop}
theorem wpList_askM (w : World) (hg : o.guard = none) (mo xo : Operand) (hop : o.op = Op.lookup 61 mo xo true) (b n : Nat) (m : List KV) (hown : GMap w b n m) (hm : a.eval mo = .map (some b)) (k : ByteArray) (hk : k.size ≤ maxLen) (hx : a.eval xo = .string k)
    (hK : wpList Try.prog ops Q rest (a.put o.dst (.tuple #[.string ((getK k m).getD ByteArray.empty), .bool (getK k m).isSome])) w) : wpList Try.prog ops Q (o :: rest) a w := by
  obtain ⟨D, h1, h2, h3, h4⟩ := hown
  refine wpList_lookup_own_ok w hg mo xo 61 hop 9 9 (Maps.string_keyed Try.underlying9) Try.underlying61 (plainElem Try.prog 9) (zeroS w) (.lit (.string [])) [] (plainElem_string Try.underlying9 (Nat.zero_le _)) b n D hm h1 (.string k) (kl k) hx (WideMaps.keyOf_string_mk Try.underlying9 hk) ?_
  intro v ps hv
  rw [(h4 k).1]
  have h5 := (h4 k).2 (.lit (.string []))
  rw [h5] at hv
  unfold plainElem at hv
  rw [Try.underlying9] at hv
  have h6 : v = .string ((getK k m).getD ByteArray.empty) := by
    cases v <;> simp at hv
    rename_i s
    have h7 := hv.2.1
    congr 1
    refine toList_inj ?_
    rw [ByteArray.toList_eq, ByteArray.toList_eq]
    cases hg' : getK k m with
    | none => rw [hg'] at h7; simpa using h7
    | some u => rw [hg'] at h7; simpa using h7
  rw [h6]
  exact hK
theorem wpList_layM (w : World) (hg : o.guard = none) (mo xo vo : Operand) (hop : o.op = Op.mapUpdate 61 mo xo vo) (b n : Nat) (m : List KV) (hown : GMap w b n m) (hn : n < maxLen) (hm : a.eval mo = .map (some b)) (k v : ByteArray) (hk : k.size ≤ maxLen) (hv : v.size ≤ maxLen) (hx : a.eval xo = .string k) (hvo : a.eval vo = .string v)
    (hK : ∀ w', GMap w' b (n + 1) (ins k v m) → w.grownBy w' (some b) → wpList Try.prog ops Q rest (a.put o.dst undef) w') : wpList Try.prog ops Q (o :: rest) a w := by
  obtain ⟨D, h1, h2⟩ := hown
  refine wpList_mapUpdate_own w hg mo xo vo 61 hop 9 9 (Maps.string_keyed Try.underlying9) Try.underlying61 (plainElem Try.prog 9) b n D hm h1 hn (.string k) (.string v) (kl k) hx hvo (WideMaps.keyOf_string_mk Try.underlying9 hk) (.lit (.string v.data.toList)) [] (plainElem_string Try.underlying9 hv) ?_
  intro w' k1 k2
  exact hK w' ⟨_, k1, h2.put k v⟩ k2
theorem wpList_dropM (w : World) (hg : o.guard = none) (mo xo : Operand) (hop : o.op = Op.call { callee := Callee.builtin Builtin.delete, args := #[mo, xo], argTypes := #[61, 9] }) (b n : Nat) (m : List KV) (hr : Rising m) (hown : GMap w b n m) (hm : a.eval mo = .map (some b)) (k : ByteArray) (hk : k.size ≤ maxLen) (hx : a.eval xo = .string k)
    (hK : ∀ w', GMap w' b n (del k m) → w.grownBy w' (some b) → wpList Try.prog ops Q rest (a.put o.dst (.tuple #[])) w') : wpList Try.prog ops Q (o :: rest) a w := by
  obtain ⟨D, h1, h2⟩ := hown
  refine wpList_delete_own w hg mo xo 61 9 hop 9 (Maps.string_keyed Try.underlying9) Try.underlying61 (plainElem Try.prog 9) b n D hm h1 (.string k) (kl k) hx (WideMaps.keyOf_string_mk Try.underlying9 hk) ?_
  intro w' k1 k2
  exact hK w' ⟨_, k1, h2.del hr k⟩ k2.grown
end
theorem GMap.len {w : World} {b n : Nat} {m : List KV} (h : GMap w b n m) (ty : TypeId) : (Builtin.len_ #[61] ty #[.map (some b)]).run Try.prog w = .ok (.int .i64 (m.length : Int)) w := by
  obtain ⟨D, h1, h2, h3, _⟩ := h
  rw [h1.len Try.underlying61 ty, h3]

theorem OwnM.below {w w' : World} {B : Nat} {v : Value} {l : List KV} (h : OwnM w B v l) (hb : Below w.heap.size w w') : OwnM w' B v l := by
  refine ⟨h.1, ?_⟩
  rcases h.2 with h | ⟨g, cap, cur, rfl, hB, hg, r⟩
  · exact .inl h
  · exact .inr ⟨g, cap, cur, rfl, hB, by rw [hb.block g (Array.getElem?_eq_some_iff.1 hg).1]; exact hg, r⟩
theorem OwnM.grown {w w' : World} {B g n c : Nat} {l : List KV} {row : Option Nat} (h : OwnM w B (.slice (some ⟨g, 0, none⟩) n c) l) (hg : w.grownBy w' row) (hne : row ≠ some g) : OwnM w' B (.slice (some ⟨g, 0, none⟩) n c) l := by
  refine ⟨h.1, ?_⟩
  rcases h.2 with ⟨h', _⟩ | ⟨g', cap, cur, he, hb, hh, r⟩
  · simp at h'
  · simp only [Value.slice.injEq, Option.some.injEq, Addr.mk.injEq] at he
    obtain ⟨⟨rfl, _, _⟩, hn, rfl⟩ := he
    subst hn
    exact .inr ⟨g, c, cur, rfl, hb, by rw [hg.block g (Array.getElem?_eq_some_iff.1 hh).1 (fun e => hne e.symm)]; exact hh, r⟩

/-- A slice of the law's operations that came in. -/
def IsOps (w : World) (a : Option Addr) (len : Nat) (ss : List (Int × ByteArray × ByteArray)) : Prop :=
  ss.length = len ∧ len ≤ maxLen ∧ (a = none → len = 0) ∧ ∀ x, a = some x → ∀ i (h : i < ss.length), w.cell? (x.add (i * 3)) = some (.int .i64 ss[i].1) ∧ w.cell? (x.add (i * 3 + 1)) = some (.string ss[i].2.1) ∧ w.cell? (x.add (i * 3 + 2)) = some (.string ss[i].2.2) ∧ (Lit.int .i64 ss[i].1).wf = true ∧ ss[i].2.1.size ≤ maxLen ∧ ss[i].2.2.size ≤ maxLen
theorem isOps_of {H : Type} {enc : TypeId × Value → H} {P : Program} {W : World} {t e : TypeId} {f0 f1 f2 : Field} {a : Option Addr} {len cap : Nat} {d : DataW H} {p : List MemPlace}
    (ht : P.underlying t = some (.slice e)) (he : P.underlying e = some (.struct #[f0, f1, f2])) (ce : P.cellsOf e = 3) (o0 : f0.offset = 0) (o1 : f1.offset = 1) (o2 : f2.offset = 2) (c0 : P.cellsOf f0.type = 1) (c1 : P.cellsOf f1.type = 1) (c2 : P.cellsOf f2.type = 1)
    (h0 : P.underlying f0.type = some (.int .i64)) (h1 : P.underlying f1.type = some .string) (h2 : P.underlying f2.type = some .string)
    (h : DataW.Trod enc P W 0 (fun _ => true) true t (.slice a len cap) d p) : ∃ ss, IsOps W a len ss := by
  obtain ⟨fuel, hf⟩ := h
  rcases Deep.open_slice ht hf with ⟨hcs, _⟩ | ⟨x, l, c, m, n, D, Pl, hcs, _, hl, hm, hmm, _, hcell⟩
  · simp [Value.cells] at hcs
    obtain ⟨rfl, rfl, rfl⟩ := hcs
    exact ⟨[], rfl, Nat.zero_le _, fun _ => rfl, fun x h => by cases h⟩
  · simp [Value.cells] at hcs
    obtain ⟨rfl, rfl, rfl⟩ := hcs
    have each : ∀ i, i < len → ∃ q : Int × ByteArray × ByteArray, W.cell? (x.add (i * 3)) = some (.int .i64 q.1) ∧ W.cell? (x.add (i * 3 + 1)) = some (.string q.2.1) ∧ W.cell? (x.add (i * 3 + 2)) = some (.string q.2.2) ∧ (Lit.int .i64 q.1).wf = true ∧ q.2.1.size ≤ maxLen ∧ q.2.2.size ≤ maxLen := by
      intro i hi
      obtain ⟨cs', k1, k2⟩ := hcell i (by rw [hmm]; simp; omega)
      rw [ce] at k1
      obtain ⟨_, hlen, hc⟩ := World.cells?_some k1
      obtain ⟨y0, y1, y2, n', _, _, t0, t1, t2⟩ := Deep.trod_struct3 he k2
      match cs', hlen with
      | [v0, v1, v2], _ =>
        simp [o0, o1, o2, c0, c1, c2] at t0 t1 t2
        obtain ⟨s0, e0, _, w0⟩ := DataW.trod_int h0 t0
        obtain ⟨s1, e1, _, w1⟩ := DataW.trod_string h1 t1
        obtain ⟨s2, e2, _, w2⟩ := DataW.trod_string h2 t2
        simp at e0 e1 e2
        subst e0 e1 e2
        have z0 := hc 0 (by omega)
        have z1 := hc 1 (by omega)
        have z2 := hc 2 (by omega)
        rw [addr_add_add] at z0 z1 z2
        exact ⟨(s0, s1, s2), by simpa using z0, by simpa using z1, by simpa using z2, w0, w1, w2⟩
    obtain ⟨q, hq⟩ := Deep.choose_lt each
    refine ⟨(List.range len).map q, by simp, by omega, fun h => (by cases h), fun y hy i hi => ?_⟩
    cases hy
    simp at hi
    simp only [List.getElem_map, List.getElem_range]
    exact hq i hi
end Go.Proofs.Ytopnblhedankcaa

/- lock: what a table says, plainly; a wish, plainly. Own lemmas, no statement. -/
import Derived.Test.YtkgecljoodofeaaLkN
import Derived.Test.YtkgecljoodofeaaLkH
set_option linter.unusedSimpArgs false
set_option linter.unusedVariables false
namespace Go.Proofs.Ytkgecljoodofeaa
open Go.ChangeShapes Go.WideShapes Go.ChangeAt Go.RowKit

theorem wpList_lookup_run (w : World) {ops : Array Oper} {rest : List Oper} {o : Oper} {a : Act} {Q : Exit → Act → World → Prop} (hgd : o.guard = none) (t : TypeId) (m x : Operand)
    (ho : o.op = .lookup t m x false) (v u : Value) (hm : a.eval m = v) (hx : a.eval x = u) {v' : Value} {w' : World}
    (hr : (Instr.lookup t v u false).run Try.prog w = .ok v' w') (h : wpList Try.prog ops Q rest (a.put o.dst v') w') : wpList Try.prog ops Q (o :: rest) a w := by
  refine wpList_plain hgd fun K hK => ?_
  unfold Oper.wp execOp
  simp only [ho, Sem.run_bind, Sem.run_pure, Result.andThen_ok, hm, hx, hr]
  exact hK _ _ h

/-- Where one is to stand among those who wait. -/
def placeN (d : Int) (has waits : List Wn) : Nat := if d = 1 then frontN has waits else waits.length
theorem placeN_le (d : Int) (has waits : List Wn) : placeN d has waits ≤ waits.length := by
  unfold placeN
  split
  · exact frontN_le has waits
  · exact Nat.le_refl _
/-- What becomes of a wish, and of the line; and whether it is laid in the table. -/
structure AnsL where
  ans : Int
  has : List Wn
  waits : List Wn
  laid : Bool
def wantL (t : Td) (m : Int) (has waits : List Wn) (at_ : Nat) : AnsL :=
  if judgeN has waits ⟨t.num, t.node, m⟩ at_ = 3 then ⟨3, has, waits, false⟩
  else if judgeN has waits ⟨t.num, t.node, m⟩ at_ = 1 then ⟨1, giveL ⟨t.num, t.node, m⟩ has, waits, true⟩
  else ⟨2, has, waits.take at_ ++ ⟨t.num, t.node, m⟩ :: waits.drop at_, true⟩
def askL (t : Td) (m : Int) (has waits : List Wn) : AnsL :=
  if modeT t has = m ∨ modeT t has = 2 then ⟨1, has, waits, false⟩
  else if (waits.any fun x => eqT x.t t) = true then ⟨2, has, waits, false⟩
  else wantL t m has waits (placeN (modeT t has) has waits)
theorem ansN_12 (x : Wn) (l : List Wn) : ansN x l = 1 ∨ ansN x l = 2 := by
  unfold ansN
  split
  · exact .inr rfl
  · exact .inl rfl
theorem judgeN_123 (has ls : List Wn) (x : Wn) (i : Nat) : judgeN has ls x i = 3 ∨ judgeN has ls x i = 1 ∨ judgeN has ls x i = 2 := by
  unfold judgeN
  split
  · exact .inl rfl
  · split
    · exact .inl rfl
    · exact .inr (ansN_12 _ _)

/-- How the line of a key lies; a line of which nothing was laid is empty. -/
def Tab.ln (T : Tab) (k : ByteArray) : LnV := (T.F k).getD ln0
/-- What holds of a table, plainly. -/
structure TInv (T : Tab) : Prop where
  srt : ∀ k, Srt (T.ln k).has
  ne : ∀ k l, T.F k = some l → l.has ≠ []
  modes : ∀ k x, x ∈ (T.ln k).has ∨ x ∈ (T.ln k).waits → x.mode = 1 ∨ x.mode = 2
  len : ∀ k, (T.ln k).has.length + (T.ln k).waits.length ≤ T.N
  asked : ∀ t k, (T.K t k).isSome = true ↔ ∃ x, (x ∈ (T.ln k).has ∨ x ∈ (T.ln k).waits) ∧ x.t = t
  nosets : ∀ t, T.A t = none → ∀ k, T.K t k = none
section
variable {B : Nat} {w w' : World} {T : Tab} {k : ByteArray}
theorem Tab.ln_some {l : LnV} (h : T.F k = some l) : T.ln k = l := by unfold Tab.ln; rw [h]; rfl
theorem Tab.ln_none (h : T.F k = none) : T.ln k = ln0 := by unfold Tab.ln; rw [h]; rfl
theorem LB0 {i : Nat} : ¬ LB ln0 i := fun h => by rcases h with h | h <;> cases h
theorem TabAt.own (h : TabAt B w T none_) : OwnL w B (T.ln k) := by
  cases hF : T.F k with
  | none => rw [Tab.ln_none hF]; exact ⟨OwnW.nil w B, OwnW.nil w B⟩
  | some l => rw [Tab.ln_some hF]; exact h.rows k l hF (fun e => e)
theorem TabAt.lb_ft (h : TabAt B w T none_) {i : Nat} (hi : LB (T.ln k) i) : FT T none_ i := by
  cases hF : T.F k with
  | none => rw [Tab.ln_none hF] at hi; exact absurd hi LB0
  | some l => rw [Tab.ln_some hF] at hi; exact .inr (.inr (.inr (.inl ⟨k, l, hF, fun e => e, hi⟩)))
theorem TabAt.lb_apart (h : TabAt B w T none_) {i : Nat} (hi : LB (T.ln k) i) : ¬ FT T (fun q => q = k) i := by
  have hn := h.notRow h.own hi
  cases hF : T.F k with
  | none => rw [Tab.ln_none hF] at hi; exact absurd hi LB0
  | some l =>
    rw [Tab.ln_some hF] at hi
    intro hf
    rcases hf with e | e | e | ⟨q, m, h1, h2, h3⟩ | ⟨t, ht⟩
    · exact hn.1 e
    · exact hn.2.1 e
    · exact hn.2.2.1 e
    · exact h2 (h.ap q m k l i h1 (fun e => e) hF (fun e => e) h3 hi)
    · exact hn.2.2.2 t ht
theorem FT.wide {X : ByteArray → Prop} {i : Nat} (h : FT T X i) : FT T none_ i := by
  rcases h with e | e | e | ⟨q, m, h1, h2, h3⟩ | ⟨t, ht⟩
  · exact .inl e
  · exact .inr (.inl e)
  · exact .inr (.inr (.inl e))
  · exact .inr (.inr (.inr (.inl ⟨q, m, h1, fun e => e, h3⟩)))
  · exact .inr (.inr (.inr (.inr ⟨t, ht⟩)))
theorem TabAt.lb_other (h : TabAt B w T none_) {i : Nat} (hi : LB (T.ln k) i) : ∀ q m, q ≠ k → T.F q = some m → ¬ LB m i := fun q m hq hm hb => by
  cases hF : T.F k with
  | none => rw [Tab.ln_none hF] at hi; exact absurd hi LB0
  | some l =>
    rw [Tab.ln_some hF] at hi
    exact hq (h.ap q m k l i hm (fun e => e) hF (fun e => e) hb hi)
theorem TabAt.lb_two (h : TabAt B w T none_) {i : Nat} (hi : (T.ln k).hb = some i) : (T.ln k).wb ≠ some i := by
  cases hF : T.F k with
  | none => rw [Tab.ln_none hF] at hi; cases hi
  | some l =>
    rw [Tab.ln_some hF] at hi ⊢
    exact h.ap2 k l i hF (fun e => e) hi
theorem OwnW.asV {v : Value} {ls : List Wn} (h : OwnW w B v ls) : ∃ b c, v = slV b ls.length c := by
  rcases h.form with ⟨e, e2⟩ | ⟨g, c, e, _⟩
  · subst e2; exact ⟨none, 0, e⟩
  · exact ⟨some g, c, e⟩
end
/-- What Ask leaves. -/
def AskP (B : Nat) (w : World) (T : Tab) (t : Td) (m : Int) (k : ByteArray) (e : Ending) (w' : World) : Prop :=
  e = .returned (.int .i64 (askL t m (T.ln k).has (T.ln k).waits).ans) ∧
  (((askL t m (T.ln k).has (T.ln k).waits).laid = false ∧ TabAt B w' T none_ ∧ Ext w w') ∨
   ((askL t m (T.ln k).has (T.ln k).waits).laid = true ∧ ∃ l b, l.has = (askL t m (T.ln k).has (T.ln k).waits).has ∧ l.waits = (askL t m (T.ln k).has (T.ln k).waits).waits ∧ (T.A t = some (some b) ∨ (T.A t = none ∧ w.heap.size ≤ b)) ∧ (∀ i, LB l i → LB (T.ln k) i ∨ w.heap.size ≤ i) ∧ TabAt B w' (T.kept t k l b) none_ ∧ Chg (FT T none_) w w'))
section
variable {B : Nat} {w : World} {T : Tab} {t : Td} {m : Int} {k : ByteArray}
/-- The end of Ask where nothing is laid. -/
theorem AskP.still {w' : World} {a : Int} (h : TabAt B w T none_) (he : Ext w w') (hl : (askL t m (T.ln k).has (T.ln k).waits).laid = false) (ha : (askL t m (T.ln k).has (T.ln k).waits).ans = a) : AskP B w T t m k (.returned (.int .i64 a)) w' := by
  subst ha
  exact ⟨rfl, .inl ⟨hl, h.below he, he⟩⟩
/-- The end of Ask where a line is laid. -/
theorem AskP.kept {w6 w7 w' : World} {a : Int} {l : LnV} {e : Ending} (h : TabAt B w T none_) (he : Ext w w6) (hc : Chg (fun i => LB (T.ln k) i ∨ w.heap.size ≤ i) w6 w7) (hl : (askL t m (T.ln k).has (T.ln k).waits).laid = true) (ha : (askL t m (T.ln k).has (T.ln k).waits).ans = a)
    (h1 : l.has = (askL t m (T.ln k).has (T.ln k).waits).has) (h2 : l.waits = (askL t m (T.ln k).has (T.ln k).waits).waits) (hL : ∀ i, LB l i → LB (T.ln k) i ∨ w.heap.size ≤ i) (hk : KeepP B w7 T t k l e w') (hz : w6.heap.size ≤ w7.heap.size) : AskP B w T t m k (.returned (.int .i64 a)) w' := by
  subst ha
  obtain ⟨_, b, hb, ht, hcc⟩ := hk
  refine ⟨rfl, .inr ⟨hl, l, b, h1, h2, ?_, hL, ht, ?_⟩⟩
  · rcases hb with hb | ⟨hb, hb2⟩
    · exact .inl hb
    · have := he.size
      exact .inr ⟨hb, by omega⟩
  · have hc0 : Chg (FT T none_) w w7 := Chg.trans (S' := fun i => LB (T.ln k) i ∨ w.heap.size ≤ i) (Chg.of_below he (fun i hi hn => absurd hi (Nat.not_lt.2 hn))) hc (fun i hi e => by
      rcases e with e | e
      · exact h.lb_ft e
      · exact absurd hi (Nat.not_lt.2 e))
    refine Chg.trans hc0 hcc (fun i hi e => ?_)
    rcases e with e | e | e
    · exact .inr (.inl e)
    · exact .inr (.inr (.inl e))
    · rcases hb with hb | ⟨hb, hb2⟩
      · exact .inr (.inr (.inr (.inr ⟨t, by rw [hb, e]⟩)))
      · have := he.size
        omega
/-- The table where one line's rows have turned. -/
theorem TabAt.loose {w6 w7 : World} (h : TabAt B w T none_) (he : Ext w w6) (hc : Chg (fun i => LB (T.ln k) i ∨ w.heap.size ≤ i) w6 w7) : TabAt B w7 T (fun q => q = k) :=
  (h.below he).chg (fun _ e => e.elim) hc fun i hi e => by
    rcases e with e | e
    · exact h.lb_apart e hi
    · have := (h.ft_lt hi.wide).2
      omega
end
section
variable {B : Nat} {w : World} {T : Tab} {t : Td} {m : Int} {k : ByteArray}
/-- The call of keep at the end of Ask. -/
theorem ask_keep {w6 w7 : World} {a : Int} {hv wv : Value} (h : TabAt B w T none_) (hi : TInv T) (he : Ext w w6) (hc : Chg (fun i => LB (T.ln k) i ∨ w.heap.size ≤ i) w6 w7)
    (hl : (askL t m (T.ln k).has (T.ln k).waits).laid = true) (ha : (askL t m (T.ln k).has (T.ln k).waits).ans = a)
    (o1 : OwnW w7 B hv (askL t m (T.ln k).has (T.ln k).waits).has) (o2 : OwnW w7 B wv (askL t m (T.ln k).has (T.ln k).waits).waits)
    (b1 : ∀ i, hv.ownBlock = some i → (T.ln k).hb = some i ∨ w.heap.size ≤ i) (b2 : ∀ i, wv.ownBlock = some i → (T.ln k).wb = some i ∨ w.heap.size ≤ i) (hd : hv.ownBlock = (T.ln k).hb ∨ wv.ownBlock = (T.ln k).wb)
    (ht : t.wf) (hk : k.size ≤ maxLen) (hN : T.N ≤ 9000) :
    Calls Try.prog 30 #[.pointer (some ⟨T.g, 0, none⟩), .agg #[.int .u64 t.num, .int .i64 t.node], .string k, .agg #[hv, wv]] w7 (fun e w' => e = .returned (.tuple #[]) ∧ AskP B w T t m k (.returned (.int .i64 a)) w') := by
  obtain ⟨hb, hcc, eh⟩ := o1.asV
  obtain ⟨wb, wc, ew⟩ := o2.asV
  have hvb : hv.ownBlock = hb := by rw [eh, slV_own]
  have wvb : wv.ownBlock = wb := by rw [ew, slV_own]
  obtain ⟨l, hl7⟩ : ∃ l : LnV, l = ⟨hb, hcc, (askL t m (T.ln k).has (T.ln k).waits).has, wb, wc, (askL t m (T.ln k).has (T.ln k).waits).waits⟩ := ⟨_, rfl⟩
  have e1 : l.hv = hv := by rw [hl7, eh]; rfl
  have e2 : l.wv = wv := by rw [hl7, ew]; rfl
  have e3 : l.v = .agg #[hv, wv] := by unfold LnV.v; rw [e1, e2]
  have e4 : l.hb = hv.ownBlock := by rw [hvb, hl7]
  have e5 : l.wb = wv.ownBlock := by rw [wvb, hl7]
  have hown : OwnL w7 B l := ⟨by rw [e1]; rw [hl7]; exact o1, by rw [e2]; rw [hl7]; exact o2⟩
  have hlt : ∀ i, LB (T.ln k) i → i < w.heap.size := fun i hi => (h.ft_lt (h.lb_ft hi)).2
  have hLB : ∀ i, LB l i → LB (T.ln k) i ∨ w.heap.size ≤ i := fun i hi => by
    rcases hi with hi | hi
    · rcases b1 i (by rw [← e4]; exact hi) with x | x
      · exact .inl (.inl x)
      · exact .inr x
    · rcases b2 i (by rw [← e5]; exact hi) with x | x
      · exact .inl (.inr x)
      · exact .inr x
  rw [← e3]
  have hsz := hc.size
  refine (keep_any B T t k l w7 (h.loose he hc) hown (fun q mm b hq hm hb => ?_) (fun b hb hw => ?_) ht hk (by omega) (hi.nosets t)).mono ?_
  · rcases hLB b hb with x | x
    · exact h.lb_other x q mm hq hm
    · intro hmb
      have h2 := (h.ft_lt (T := T) (X := none_) (.inr (.inr (.inr (.inl ⟨q, mm, hm, fun e => e, hmb⟩))))).2
      omega
  · rw [e4] at hb
    rw [e5] at hw
    rcases hd with hd | hd
    · rw [hb] at hd
      rcases b2 b hw with x | x
      · exact h.lb_two hd.symm x
      · have := hlt b (.inl hd.symm); omega
    · rw [hw] at hd
      rcases b1 b hb with x | x
      · exact h.lb_two x hd.symm
      · have := hlt b (.inr hd.symm); omega
  · intro e w' hkp
    refine ⟨hkp.1, AskP.kept h he hc hl ha (by rw [hl7]) (by rw [hl7]) hLB hkp hsz⟩
end
end Go.Proofs.Ytkgecljoodofeaa

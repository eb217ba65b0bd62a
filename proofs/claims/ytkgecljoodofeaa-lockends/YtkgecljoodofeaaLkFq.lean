/- lock: a table while a transaction is freed. Own lemmas, no statement. -/
import Derived.Test.YtkgecljoodofeaaLkFp
set_option linter.unusedSimpArgs false
set_option linter.unusedVariables false
namespace Go.Proofs.Ytkgecljoodofeaa
open Go.ChangeShapes Go.WideShapes Go.ChangeAt Go.RowKit

section
variable {B : Nat} {w wz : World} {T : Tab} {k : ByteArray} {l : LnV}
/-- Blocks of other types are none of a table's. -/
theorem TabAt.notFT {X : ByteArray → Prop} (h : TabAt B w T X) {b : Nat} {c : Array Value} {Y : TypeId} (hb : Blk w b c Y) (h1 : Y ≠ 65) (h2 : Y ≠ 55) : ¬ FT T X b := by
  rintro (rfl | rfl | rfl | ⟨q, m, e1, e2, e3⟩ | ⟨t, ht⟩)
  · exact h1 (hb.inj h.blk).2
  · exact h.lm.ne hb rfl
  · exact h.am.ne hb rfl
  · have ho := h.rows q m e1 e2
    rcases e3 with e | e
    · exact ho.1.notBlk hb h2 (by unfold LnV.hv; rw [slV_own]; exact e)
    · exact ho.2.notBlk hb h2 (by unfold LnV.wv; rw [slV_own]; exact e)
  · obtain ⟨b', e, _, _, _, h4⟩ := h.sets t _ ht
    cases e
    exact h4.ne hb rfl
theorem OwnG.blk {v : Value} {os : List Gr} (h : OwnG w B v os) {b : Nat} (hb : v.ownBlock = some b) : B ≤ b ∧ b < w.heap.size ∧ ∃ c, Blk w b c 46 := by
  rcases h.form with ⟨rfl, _⟩ | ⟨g, c, rfl, h1, h2, _, _, cur, h5, _⟩
  · cases hb
  · cases hb
    exact ⟨h1, h2, cur, h5⟩
theorem LB.ofv {i : Nat} : l.hv.ownBlock = some i ∨ l.wv.ownBlock = some i ↔ LB l i := by unfold LnV.hv LnV.wv LB; rw [slV_own, slV_own]
/-- A line is laid anew. -/
theorem TabAt.putL (h : TabAt B w T (fun q => q = k)) (ho : OwnL w B l) (hap : ∀ q m b, q ≠ k → T.F q = some m → LB l b → ¬ LB m b) (hap2 : ∀ b, l.hb = some b → l.wb ≠ some b)
    (C : Chg (fun i => i = T.mb) w wz) (lm : GM cLn wz T.mb (T.N + 1) (putF cLn T.F k l)) : TabAt B wz (T.put k l) none_ := by
  have hgm : T.g ≠ T.mb := fun e => h.lm.ne h.blk e.symm
  have hlb : ∀ {m : LnV}, OwnL w B m → OwnL wz B m := fun {m} hm => hm.kept fun i hi => C.block i (hm.lt hi).2 fun e => (h.notRow hm hi).2.1 e
  refine { low := h.low, blk := h.blk.chg C hgm, lm := lm, am := (h.am.of (C.block _ h.am.lt (fun e => h.two e.symm))).mono (Nat.le_succ _), two := h.two, rows := ?_, ap := ?_, ap2 := ?_, sets := ?_, ap3 := h.ap3 }
  · intro q m hm _
    have hm2 : putF cLn T.F k l q = some m := hm
    by_cases hq : q = k
    · rw [hq, putF_same cLn_ok] at hm2
      cases hm2
      exact hlb ho
    · rw [putF_other cLn_ok _ _ hq] at hm2
      exact hlb (h.rows q m hm2 hq)
  · intro p m q m' i h1 _ h3 _ h5 h6
    have e1 : putF cLn T.F k l p = some m := h1
    have e3 : putF cLn T.F k l q = some m' := h3
    clear h1 h3
    by_cases hp : p = k
    · by_cases hq : q = k
      · rw [hp, hq]
      · rw [hp, putF_same cLn_ok] at e1
        cases e1
        rw [putF_other cLn_ok _ _ hq] at e3
        exact absurd h6 (hap q m' i hq e3 h5)
    · rw [putF_other cLn_ok _ _ hp] at e1
      by_cases hq : q = k
      · rw [hq, putF_same cLn_ok] at e3
        cases e3
        exact absurd h5 (hap p m i hp e1 h6)
      · rw [putF_other cLn_ok _ _ hq] at e3
        exact h.ap p m q m' i e1 hp e3 hq h5 h6
  · intro q m i h1 _ h3
    have e1 : putF cLn T.F k l q = some m := h1
    clear h1
    by_cases hq : q = k
    · rw [hq, putF_same cLn_ok] at e1
      cases e1
      exact hap2 i h3
    · rw [putF_other cLn_ok _ _ hq] at e1
      exact h.ap2 q m i e1 hq h3
  · intro u o hu
    obtain ⟨b', e, h1, h2, h3, h4⟩ := h.sets u o hu
    exact ⟨b', e, h1, h2, h3, (h4.of (C.block b' h4.lt h2)).mono (Nat.le_succ _)⟩
/-- A line is dropped. -/
theorem TabAt.cutL (h : TabAt B w T (fun q => q = k)) (C : Chg (fun i => i = T.mb) w wz) (lm : GM cLn wz T.mb T.N (delF cLn T.F k)) : TabAt B wz (T.cut k) none_ := by
  have hgm : T.g ≠ T.mb := fun e => h.lm.ne h.blk e.symm
  have hlb : ∀ {m : LnV}, OwnL w B m → OwnL wz B m := fun {m} hm => hm.kept fun i hi => C.block i (hm.lt hi).2 fun e => (h.notRow hm hi).2.1 e
  have hF : ∀ {q : ByteArray} {m : LnV}, (T.cut k).F q = some m → q ≠ k ∧ T.F q = some m := fun {q m} hm => by
    have hm2 : delF cLn T.F k q = some m := hm
    by_cases hq : q = k
    · rw [hq, delF_same cLn_ok] at hm2; cases hm2
    · rw [delF_other cLn_ok _ hq] at hm2; exact ⟨hq, hm2⟩
  refine { low := h.low, blk := h.blk.chg C hgm, lm := lm.mono (Nat.le_succ _), am := (h.am.of (C.block _ h.am.lt (fun e => h.two e.symm))).mono (Nat.le_succ _), two := h.two, rows := ?_, ap := ?_, ap2 := ?_, sets := ?_, ap3 := h.ap3 }
  · intro q m hm _
    obtain ⟨h1, h2⟩ := hF hm
    exact hlb (h.rows q m h2 h1)
  · intro p m q m' i h1 _ h3 _ h5 h6
    obtain ⟨a1, a2⟩ := hF h1
    obtain ⟨b1, b2⟩ := hF h3
    exact h.ap p m q m' i a2 a1 b2 b1 h5 h6
  · intro q m i h1 _ h3
    obtain ⟨a1, a2⟩ := hF h1
    exact h.ap2 q m i a2 a1 h3
  · intro u o hu
    obtain ⟨b', e, h1, h2, h3, h4⟩ := h.sets u o hu
    exact ⟨b', e, h1, h2, h3, (h4.of (C.block b' h4.lt h2)).mono (Nat.le_succ _)⟩
/-- A transaction's set is dropped. -/
theorem TabAt.offL {t : Td} (h : TabAt B w T none_) (C : Chg (fun i => i = T.ab) w wz) (am : GM cAs wz T.ab T.N (delF cAs T.A t)) : TabAt B wz (T.off t) none_ := by
  have hga : T.g ≠ T.ab := fun e => h.am.ne h.blk e.symm
  have hlb : ∀ {m : LnV}, OwnL w B m → OwnL wz B m := fun {m} hm => hm.kept fun i hi => C.block i (hm.lt hi).2 fun e => (h.notRow hm hi).2.2.1 e
  have hA : ∀ {u : Td} {o : Option Nat}, (T.off t).A u = some o → u ≠ t ∧ T.A u = some o := fun {u o} hm => by
    have hm2 : delF cAs T.A t u = some o := hm
    by_cases hq : u = t
    · rw [hq, delF_same cAs_ok] at hm2; cases hm2
    · rw [delF_other cAs_ok _ hq] at hm2; exact ⟨hq, hm2⟩
  refine { low := h.low, blk := h.blk.chg C hga, lm := h.lm.of (C.block _ h.lm.lt (fun e => h.two e)), am := am, two := h.two, rows := fun q m hm hx => hlb (h.rows q m hm hx), ap := h.ap, ap2 := h.ap2, sets := ?_, ap3 := ?_ }
  · intro u o hu
    obtain ⟨a1, a2⟩ := hA hu
    obtain ⟨b', e, h1, h2, h3, h4⟩ := h.sets u o a2
    refine ⟨b', e, h1, h2, h3, ?_⟩
    have hK : (T.off t).K u = if eqT u t then fun _ => none else T.K u := rfl
    rw [hK, eqT_ne a1]
    exact h4.of (C.block b' h4.lt h3)
  · intro u v i h1 h2
    exact h.ap3 u v i (hA h1).2 (hA h2).2
theorem FT.off {t : Td} {i : Nat} (h : FT (T.off t) none_ i) : FT T none_ i := by
  rcases h with e | e | e | ⟨q, m, h1, h2, h3⟩ | ⟨u, hu⟩
  · exact .inl e
  · exact .inr (.inl e)
  · exact .inr (.inr (.inl e))
  · exact .inr (.inr (.inr (.inl ⟨q, m, h1, h2, h3⟩)))
  · have hu2 : delF cAs T.A t u = some (some i) := hu
    by_cases hq : u = t
    · rw [hq, delF_same cAs_ok] at hu2; cases hu2
    · rw [delF_other cAs_ok _ hq] at hu2
      exact .inr (.inr (.inr (.inr ⟨u, hu2⟩)))
theorem FT.cut {i : Nat} (h : FT (T.cut k) none_ i) : FT T none_ i := by
  rcases h with e | e | e | ⟨q, m, h1, h2, h3⟩ | ⟨u, hu⟩
  · exact .inl e
  · exact .inr (.inl e)
  · exact .inr (.inr (.inl e))
  · have h1' : delF cLn T.F k q = some m := h1
    by_cases hq : q = k
    · rw [hq, delF_same cLn_ok] at h1'; cases h1'
    · rw [delF_other cLn_ok _ hq] at h1'
      exact .inr (.inr (.inr (.inl ⟨q, m, h1', h2, h3⟩)))
  · exact .inr (.inr (.inr (.inr ⟨u, hu⟩)))
theorem FT.put {i : Nat} (h : FT (T.put k l) none_ i) : FT T none_ i ∨ LB l i := by
  rcases h with e | e | e | ⟨q, m, h1, h2, h3⟩ | ⟨u, hu⟩
  · exact .inl (.inl e)
  · exact .inl (.inr (.inl e))
  · exact .inl (.inr (.inr (.inl e)))
  · have h1' : putF cLn T.F k l q = some m := h1
    by_cases hq : q = k
    · rw [hq, putF_same cLn_ok] at h1'
      cases h1'
      exact .inr h3
    · rw [putF_other cLn_ok _ _ hq] at h1'
      exact .inl (.inr (.inr (.inr (.inl ⟨q, m, h1', h2, h3⟩))))
  · exact .inl (.inr (.inr (.inr (.inr ⟨u, hu⟩))))
end
/-- While the keys ks of the transaction t are freed: j are; ov is what was given. -/
def FI (B : Nat) (W1 : World) (T : Tab) (t : Td) (ks : List ByteArray) (j : Nat) (ov : Value) (wr : World) : Prop := ∃ T' os, TabAt B wr T' none_ ∧ FreeR T t ks j T' os ∧ OwnG wr W1.heap.size ov os ∧ StepT W1 T wr T'
/-- Ahead of the turn of the map in a round. -/
structure RoundF (B : Nat) (W1 : World) (T T' : Tab) (t : Td) (k : ByteArray) (os : List Gr) (ov : Value) (wr W5 : World) (hv wv ov' : Value) : Prop where
  h : OwnW W5 B hv (freeH t (T.ln k).has (T.ln k).waits)
  w : OwnW W5 B wv (freeW t (T.ln k).has (T.ln k).waits)
  hb : ∀ b, hv.ownBlock = some b → (T'.ln k).hb = some b ∨ wr.heap.size ≤ b
  wb : ∀ b, wv.ownBlock = some b → (T'.ln k).wb = some b
  og : OwnG W5 W1.heap.size ov' (os ++ freeG t k (T.ln k).has (T.ln k).waits)
  chg : Chg (fun i => LB (T'.ln k) i ∨ ov.ownBlock = some i) wr W5
section
variable {B j : Nat} {W1 wr W5 W6 : World} {T T' : Tab} {t : Td} {ks : List ByteArray} {k : ByteArray} {os : List Gr} {ov hv wv ov' : Value}
theorem RoundF.loose (r : RoundF B W1 T T' t k os ov wr W5 hv wv ov') (ht : TabAt B wr T' none_) (ho : OwnG wr W1.heap.size ov os) : TabAt B W5 T' (fun q => q = k) :=
  ht.chg (fun _ e => e.elim) r.chg fun i hi e => by
    rcases e with e | e
    · exact ht.lb_apart e hi
    · obtain ⟨_, _, c, hc⟩ := ho.blk e
      exact ht.notFT hc (by decide) (by decide) hi.wide
theorem RoundF.step (r : RoundF B W1 T T' t k os ov wr W5 hv wv ov') (ht : TabAt B wr T' none_) (ho : OwnG wr W1.heap.size ov os) (hs : StepT W1 T wr T') (hmb : T'.mb = T.mb) (C : Chg (fun i => i = T'.mb) W5 W6) : Chg (FT T none_) W1 W6 := by
  refine Chg.trans (Chg.trans hs.chg r.chg (fun i hi e => ?_)) C (fun i hi e => ?_)
  · rcases e with e | e
    · rcases hs.ft i (ht.lb_ft e) with x | x
      · exact x
      · omega
    · have := (ho.blk e).1
      omega
  · exact .inr (.inl (e.trans hmb))
theorem RoundF.put (r : RoundF B W1 T T' t k os ov wr W5 hv wv ov') (ht : TabAt B wr T' none_) (hf : FreeR T t ks j T' os) (ho : OwnG wr W1.heap.size ov os) (hs : StepT W1 T wr T') (hp : ks.Pairwise fun a b => ltK a b = true) (hj : j < ks.length) (hk : k = ks[j])
    (hne : freeH t (T.ln k).has (T.ln k).waits ≠ []) {l : LnV} (el : l.v = .agg #[hv, wv]) (l1 : l.has = freeH t (T.ln k).has (T.ln k).waits) (l2 : l.waits = freeW t (T.ln k).has (T.ln k).waits)
    (C : Chg (fun i => i = T'.mb) W5 W6) (lm : GM cLn W6 T'.mb (T'.N + 1) (putF cLn T'.F k l)) : FI B W1 T t ks (j + 1) ov' W6 := by
  have e1 : l.hv = hv ∧ l.wv = wv := by
    unfold LnV.v at el
    simp only [Value.agg.injEq] at el
    have := congrArg Array.toList el
    simp at this
    exact this
  have hlb : ∀ i, LB l i → LB (T'.ln k) i ∨ wr.heap.size ≤ i := fun i hi => by
    rcases LB.ofv.2 hi with e | e
    · rw [e1.1] at e
      rcases r.hb i e with x | x
      · exact .inl (.inl x)
      · exact .inr x
    · rw [e1.2] at e
      exact .inl (.inr (r.wb i e))
  have hlo := r.loose ht ho
  have hown : OwnL W5 B l := ⟨by rw [e1.1, l1]; exact r.h, by rw [e1.2, l2]; exact r.w⟩
  have hT := hlo.putL hown (fun q m b hq hm h1 h2 => by
      rcases hlb b h1 with x | x
      · exact ht.lb_other x q m hq hm h2
      · have := (ht.ft_lt (.inr (.inr (.inr (.inl ⟨q, m, hm, fun e => e, h2⟩))))).2
        omega) (fun b h1 h2 => by
      have a1 : hv.ownBlock = some b := by rw [← e1.1]; unfold LnV.hv; rw [slV_own]; exact h1
      have a2 : wv.ownBlock = some b := by rw [← e1.2]; unfold LnV.wv; rw [slV_own]; exact h2
      have a3 := r.wb b a2
      rcases r.hb b a1 with x | x
      · exact ht.lb_two x a3
      · have := (ht.ft_lt (ht.lb_ft (k := k) (.inr a3))).2
        omega) C lm
  subst hk
  refine ⟨T'.put ks[j] l, _, hT, hf.put hp hj l1 l2 (by rw [l1]; exact hne), r.og.kept fun b hb => ?_, ⟨r.step ht ho hs hf.mb C, fun i hi => ?_⟩⟩
  · obtain ⟨_, hlt, c, hc⟩ := r.og.blk hb
    exact C.block b hlt fun e => hlo.lm.ne hc e.symm
  · rcases FT.put hi with x | x
    · exact hs.ft i x
    · rcases hlb i x with y | y
      · exact hs.ft i (ht.lb_ft y)
      · have := hs.chg.size
        exact .inr (by omega)
theorem RoundF.cut (r : RoundF B W1 T T' t k os ov wr W5 hv wv ov') (ht : TabAt B wr T' none_) (hf : FreeR T t ks j T' os) (ho : OwnG wr W1.heap.size ov os) (hs : StepT W1 T wr T') (hp : ks.Pairwise fun a b => ltK a b = true) (hj : j < ks.length) (hk : k = ks[j])
    (hne : freeH t (T.ln k).has (T.ln k).waits = []) (C : Chg (fun i => i = T'.mb) W5 W6) (lm : GM cLn W6 T'.mb T'.N (delF cLn T'.F k)) : FI B W1 T t ks (j + 1) ov' W6 := by
  have hlo := r.loose ht ho
  have hT := hlo.cutL C lm
  subst hk
  refine ⟨T'.cut ks[j], _, hT, hf.cut hp hj hne, r.og.kept fun b hb => ?_, ⟨r.step ht ho hs hf.mb C, fun i hi => hs.ft i (FT.cut hi)⟩⟩
  obtain ⟨_, hlt, c, hc⟩ := r.og.blk hb
  exact C.block b hlt fun e => hlo.lm.ne hc e.symm
theorem freeG_len (t : Td) (k : ByteArray) (has waits : List Wn) : (freeG t k has waits).length ≤ waits.length := by
  unfold freeG
  rw [List.length_map, List.length_take]
  have := leave_len t waits
  omega
theorem FreeR.os_len (h : FreeR T t ks j T' os) (hi : TInv T) : os.length ≤ j * T.N := by
  have hh : ∀ l : List ByteArray, (l.flatMap fun q => freeG t q (T.ln q).has (T.ln q).waits).length ≤ l.length * T.N := by
    intro l
    induction l with
    | nil => simp
    | cons a l ih =>
      rw [List.flatMap_cons, List.length_append, List.length_cons, Nat.succ_mul]
      have h1 := freeG_len t a (T.ln a).has (T.ln a).waits
      have h2 := hi.len a
      omega
  rw [h.os]
  refine Nat.le_trans (hh _) (Nat.mul_le_mul_right _ ?_)
  rw [List.length_take]
  omega
end
end Go.Proofs.Ytkgecljoodofeaa

/- lock: what a wish turns, plainly. Own lemmas, no statement. -/
import Derived.Test.YtkgecljoodofeaaLkO
set_option linter.unusedSimpArgs false
set_option linter.unusedVariables false
namespace Go.Proofs.Ytkgecljoodofeaa
open Go.ChangeShapes Go.WideShapes Go.ChangeAt Go.RowKit

theorem posT_mem {t : Td} {ls : List Wn} (h : Srt ls) {i : Nat} (hi : i < ls.length) (he : ls[i].t = t) : posT t ls = i := by
  rcases Nat.lt_trichotomy (posT t ls) i with hlt | heq | hgt
  · have h1 := posT_at t ls (by omega)
    have h2 := h.get hlt hi
    rw [he] at h2
    rw [h2] at h1
    cases h1
  · exact heq
  · have h1 := posT_below t ls i hi hgt
    rw [he, eldT_irr] at h1
    cases h1
theorem hasT_mem {t : Td} {ls : List Wn} (h : Srt ls) : hasT t ls = true ↔ ∃ y ∈ ls, y.t = t := by
  constructor
  · intro hh
    by_cases hl : posT t ls < ls.length
    · rw [hasT_at hl] at hh
      exact ⟨_, List.getElem_mem _, eqT_iff.1 hh⟩
    · rw [hasT_end hl] at hh; cases hh
  · rintro ⟨y, hy, rfl⟩
    obtain ⟨i, hi, rfl⟩ := List.getElem_of_mem hy
    have hp := posT_mem h hi rfl
    have hl : posT ls[i].t ls < ls.length := by omega
    rw [hasT_at hl]
    simp only [hp]
    exact eqT_self _
theorem hasT_lt {t : Td} {ls : List Wn} (h : hasT t ls = true) : posT t ls < ls.length := by
  by_cases hl : posT t ls < ls.length
  · exact hl
  · rw [hasT_end hl] at h; cases h
theorem Srt.map {ls : List Wn} : Srt ls ↔ (ls.map Wn.t).Pairwise (fun a b => eldT a b = true) := by unfold Srt; rw [List.pairwise_map]
theorem giveL_set {x : Wn} {ls : List Wn} (h : hasT x.t ls = true) : giveL x ls = ls.set (posT x.t ls) x := by unfold giveL; rw [if_pos h]
theorem giveL_ins {x : Wn} {ls : List Wn} (h : hasT x.t ls = false) : giveL x ls = ls.take (posT x.t ls) ++ x :: ls.drop (posT x.t ls) := by unfold giveL; rw [if_neg (by rw [h]; decide)]
theorem giveL_srt {x : Wn} {ls : List Wn} (hs : Srt ls) : Srt (giveL x ls) := by
  cases hh : hasT x.t ls with
  | true =>
    have hl := hasT_lt hh
    rw [giveL_set hh, Srt.map, List.map_set]
    have he : (ls.map Wn.t)[posT x.t ls]'(by simpa using hl) = x.t := by
      rw [hasT_at hl] at hh
      simp only [List.getElem_map]
      exact eqT_iff.1 hh
    have : (ls.map Wn.t).set (posT x.t ls) x.t = ls.map Wn.t := by
      have h0 := @List.set_getElem_self _ (ls.map Wn.t) (posT x.t ls) (by simpa using hl)
      rw [he] at h0
      exact h0
    rw [this]
    exact Srt.map.1 hs
  | false =>
    rw [giveL_ins hh]
    have hno : ∀ y ∈ ls, y.t ≠ x.t := fun y hy e => by
      have := (hasT_mem hs).2 ⟨y, hy, e⟩
      rw [hh] at this; cases this
    unfold Srt
    refine List.pairwise_append.2 ⟨hs.sublist (List.take_sublist _ _), List.pairwise_cons.2 ⟨?_, hs.sublist (List.drop_sublist _ _)⟩, ?_⟩
    · intro y hy
      obtain ⟨i, hi, rfl⟩ := List.getElem_of_mem hy
      rw [List.getElem_drop]
      have hlt : posT x.t ls + i < ls.length := by rw [List.length_drop] at hi; omega
      rcases eldT_three (posT_from hs (Nat.le_add_right _ i) hlt) with e | e
      · exact absurd e (hno _ (List.getElem_mem _))
      · exact e
    · intro a ha b hb
      obtain ⟨i, hi, rfl⟩ := List.getElem_of_mem ha
      rw [List.length_take] at hi
      have hax : eldT ls[i].t x.t = true := posT_below _ _ i (by omega) (by omega)
      rw [List.getElem_take]
      rcases List.mem_cons.1 hb with rfl | hb
      · exact hax
      · obtain ⟨j, hj, rfl⟩ := List.getElem_of_mem hb
        rw [List.getElem_drop]
        rw [List.length_drop] at hj
        exact hs.get (by omega) (by omega)
theorem mem_giveL {x y : Wn} {ls : List Wn} (h : y ∈ giveL x ls) : y = x ∨ y ∈ ls := by
  cases hh : hasT x.t ls with
  | true =>
    rw [giveL_set hh] at h
    rcases List.mem_or_eq_of_mem_set h with e | e
    · exact .inr e
    · exact .inl e
  | false =>
    rw [giveL_ins hh] at h
    rcases List.mem_append.1 h with e | e
    · exact .inr (List.mem_of_mem_take e)
    · rcases List.mem_cons.1 e with e | e
      · exact .inl e
      · exact .inr (List.mem_of_mem_drop e)
theorem self_giveL (x : Wn) (ls : List Wn) : x ∈ giveL x ls := by
  cases hh : hasT x.t ls with
  | true => rw [giveL_set hh]; exact List.mem_set (hasT_lt hh) _
  | false => rw [giveL_ins hh]; simp
theorem old_giveL {x y : Wn} {ls : List Wn} (h : y ∈ ls) (hn : y.t ≠ x.t) : y ∈ giveL x ls := by
  cases hh : hasT x.t ls with
  | true =>
    rw [giveL_set hh]
    obtain ⟨i, hi, rfl⟩ := List.getElem_of_mem h
    have hne : posT x.t ls ≠ i := fun e => by
      have hl := hasT_lt hh
      rw [hasT_at hl] at hh
      have := eqT_iff.1 hh
      simp only [e] at this
      exact hn this
    have : (ls.set (posT x.t ls) x)[i]'(by simpa using hi) = ls[i] := List.getElem_set_ne hne _
    rw [← this]
    exact List.getElem_mem _
  | false =>
    rw [giveL_ins hh]
    rw [← List.take_append_drop (posT x.t ls) ls] at h
    rcases List.mem_append.1 h with e | e
    · exact List.mem_append.2 (.inl e)
    · exact List.mem_append.2 (.inr (List.mem_cons_of_mem _ e))
theorem giveL_len {x : Wn} {ls : List Wn} : (giveL x ls).length ≤ ls.length + 1 := by
  cases hh : hasT x.t ls with
  | true => rw [giveL_set hh, List.length_set]; omega
  | false => rw [giveL_ins hh]; have := posT_le x.t ls; simp; omega
theorem ts_giveL {x : Wn} {ls : List Wn} (u : Td) : (∃ y ∈ giveL x ls, y.t = u) ↔ u = x.t ∨ ∃ y ∈ ls, y.t = u := by
  constructor
  · rintro ⟨y, hy, rfl⟩
    rcases mem_giveL hy with rfl | e
    · exact .inl rfl
    · exact .inr ⟨y, e, rfl⟩
  · rintro (rfl | ⟨y, hy, rfl⟩)
    · exact ⟨x, self_giveL x ls, rfl⟩
    · by_cases e : y.t = x.t
      · exact ⟨x, self_giveL x ls, e.symm⟩
      · exact ⟨y, old_giveL hy e, rfl⟩

section
variable {T : Tab} {t : Td} {m : Int} {k : ByteArray} {l : LnV} {b : Nat}
theorem Tab.kept_ln (T : Tab) (t : Td) (k : ByteArray) (l : LnV) (b : Nat) (q : ByteArray) : (T.kept t k l b).ln q = if q = k then l else T.ln q := by
  show ((putF cLn T.F k l) q).getD ln0 = _
  by_cases h : q = k
  · rw [h, putF_same cLn_ok, if_pos rfl]; rfl
  · rw [putF_other cLn_ok _ _ h, if_neg h]; rfl
/-- What is so of each answer that is laid. -/
theorem askL_parts (t : Td) (m : Int) (has waits : List Wn) (hl : (askL t m has waits).laid = true) :
    ((askL t m has waits).ans = 1 ∧ (askL t m has waits).has = giveL ⟨t.num, t.node, m⟩ has ∧ (askL t m has waits).waits = waits) ∨
    ((askL t m has waits).ans = 2 ∧ (askL t m has waits).has = has ∧ ∃ p ≤ waits.length, (askL t m has waits).waits = waits.take p ++ ⟨t.num, t.node, m⟩ :: waits.drop p ∧ (has ++ waits.take p).any (agB ⟨t.num, t.node, m⟩) = true) := by
  unfold askL at hl ⊢
  split at hl
  · cases hl
  · rename_i h1
    rw [if_neg h1]
    split at hl
    · cases hl
    · rename_i h2
      rw [if_neg h2]
      unfold wantL at hl ⊢
      split at hl
      · cases hl
      · rename_i h3
        rw [if_neg h3]
        split at hl
        · rename_i h4
          rw [if_pos h4]
          exact .inl ⟨rfl, rfl, rfl⟩
        · rename_i h4
          rw [if_neg h4]
          refine .inr ⟨rfl, rfl, _, placeN_le _ _ _, rfl, ?_⟩
          have h5 := judgeN_123 has waits ⟨t.num, t.node, m⟩ (placeN (modeT t has) has waits)
          have h6 : judgeN has waits ⟨t.num, t.node, m⟩ (placeN (modeT t has) has waits) = 2 := by rcases h5 with h | h | h; exact absurd h h3; exact absurd h h4; exact h
          unfold judgeN at h6
          split at h6
          · cases h6
          · split at h6
            · cases h6
            · unfold ansN at h6
              split at h6
              · assumption
              · cases h6
theorem TInv.kept (hi : TInv T) (hm : m = 1 ∨ m = 2) (hw : ∀ k, T.F k = none → (T.ln k).waits = []) (hl : (askL t m (T.ln k).has (T.ln k).waits).laid = true) (h1 : l.has = (askL t m (T.ln k).has (T.ln k).waits).has) (h2 : l.waits = (askL t m (T.ln k).has (T.ln k).waits).waits) : TInv (T.kept t k l b) := by
  have hmem : ∀ x, x ∈ l.has ∨ x ∈ l.waits → x = ⟨t.num, t.node, m⟩ ∨ x ∈ (T.ln k).has ∨ x ∈ (T.ln k).waits := fun x hx => by
    rcases askL_parts _ _ _ _ hl with ⟨_, e1, e2⟩ | ⟨_, e1, p, hp, e2, _⟩
    · rw [h1, h2, e1, e2] at hx
      rcases hx with hx | hx
      · rcases mem_giveL hx with h | h
        · exact .inl h
        · exact .inr (.inl h)
      · exact .inr (.inr hx)
    · rw [h1, h2, e1, e2] at hx
      rcases hx with hx | hx
      · exact .inr (.inl hx)
      · rcases List.mem_append.1 hx with h | h
        · exact .inr (.inr (List.mem_of_mem_take h))
        · rcases List.mem_cons.1 h with h | h
          · exact .inl h
          · exact .inr (.inr (List.mem_of_mem_drop h))
  have hts : ∀ u, (∃ x, (x ∈ l.has ∨ x ∈ l.waits) ∧ x.t = u) ↔ u = t ∨ ∃ x, (x ∈ (T.ln k).has ∨ x ∈ (T.ln k).waits) ∧ x.t = u := fun u => by
    constructor
    · rintro ⟨x, hx, rfl⟩
      rcases hmem x hx with rfl | h
      · exact .inl rfl
      · exact .inr ⟨x, h, rfl⟩
    · intro h
      rcases askL_parts _ _ _ _ hl with ⟨_, e1, e2⟩ | ⟨_, e1, p, hp, e2, _⟩
      · rw [h1, h2, e1, e2]
        rcases h with rfl | ⟨x, hx | hx, rfl⟩
        · exact ⟨_, .inl (self_giveL _ _), rfl⟩
        · obtain ⟨y, hy, e⟩ := (ts_giveL (x := ⟨t.num, t.node, m⟩) (ls := (T.ln k).has) x.t).2 (.inr ⟨x, hx, rfl⟩)
          exact ⟨y, .inl hy, e⟩
        · exact ⟨x, .inr hx, rfl⟩
      · rw [h1, h2, e1, e2]
        rcases h with rfl | ⟨x, hx | hx, rfl⟩
        · exact ⟨⟨u.num, u.node, m⟩, .inr (by simp), rfl⟩
        · exact ⟨x, .inl hx, rfl⟩
        · rw [← List.take_append_drop p (T.ln k).waits] at hx
          rcases List.mem_append.1 hx with h | h
          · exact ⟨x, .inr (List.mem_append.2 (.inl h)), rfl⟩
          · exact ⟨x, .inr (List.mem_append.2 (.inr (List.mem_cons_of_mem _ h))), rfl⟩
  refine ⟨fun q => ?_, fun q l' hq => ?_, fun q x hx => ?_, fun q => ?_, fun u q => ?_, fun u hu => ?_⟩
  · rw [Tab.kept_ln]
    split
    · rcases askL_parts _ _ _ _ hl with ⟨_, e1, e2⟩ | ⟨_, e1, p, hp, e2, _⟩
      · rw [h1, e1]; exact giveL_srt (hi.srt k)
      · rw [h1, e1]; exact hi.srt k
    · exact hi.srt q
  · have hq2 : putF cLn T.F k l q = some l' := hq
    by_cases h : q = k
    · rw [h, putF_same cLn_ok] at hq2
      cases hq2
      rcases askL_parts _ _ _ _ hl with ⟨_, e1, e2⟩ | ⟨_, e1, p, hp, e2, ha⟩
      · rw [h1, e1]
        intro e
        have := self_giveL ⟨t.num, t.node, m⟩ (T.ln k).has
        rw [e] at this
        cases this
      · rw [h1, e1]
        intro e
        cases hF : T.F k with
        | none =>
          rw [e, hw k hF] at ha
          simp at ha
        | some l0 =>
          have := hi.ne k l0 hF
          rw [Tab.ln_some hF] at e
          exact this e
    · rw [putF_other cLn_ok _ _ h] at hq2
      exact hi.ne q l' hq2
  · rw [Tab.kept_ln] at hx
    split at hx
    · rcases hmem x hx with rfl | h
      · exact hm
      · exact hi.modes k x h
    · exact hi.modes q x hx
  · rw [Tab.kept_ln]
    have hn : (T.kept t k l b).N = T.N + 1 := rfl
    rw [hn]
    split
    · have h0 := hi.len k
      rcases askL_parts _ _ _ _ hl with ⟨_, e1, e2⟩ | ⟨_, e1, p, hp, e2, ha⟩
      · rw [h1, h2, e1, e2]
        have := giveL_len (x := ⟨t.num, t.node, m⟩) (ls := (T.ln k).has)
        omega
      · rw [h1, h2, e1, e2]
        simp
        omega
    · have h0 := hi.len q
      omega
  · have hK : (T.kept t k l b).K u = if eqT u t then putF cSet (T.K u) k () else T.K u := rfl
    rw [hK, Tab.kept_ln]
    by_cases hq : q = k
    · subst hq
      rw [if_pos rfl, hts u]
      by_cases hu : u = t
      · subst hu
        rw [eqT_self, if_pos rfl, putF_same cSet_ok]
        simp
      · rw [eqT_ne hu]
        simp only [Bool.false_eq_true, if_false]
        rw [hi.asked u q]
        simp [hu]
    · rw [if_neg hq]
      by_cases hu : u = t
      · subst hu
        rw [eqT_self, if_pos rfl, putF_other cSet_ok _ _ hq]
        exact hi.asked u q
      · rw [eqT_ne hu]
        simp only [Bool.false_eq_true, if_false]
        exact hi.asked u q
  · have hA : putF cAs T.A t (some b) u = none := hu
    by_cases h : u = t
    · rw [h, putF_same cAs_ok] at hA; cases hA
    · rw [putF_other cAs_ok _ _ h] at hA
      intro q
      have hK : (T.kept t k l b).K u = if eqT u t then putF cSet (T.K u) k () else T.K u := rfl
      rw [hK, eqT_ne h]
      exact hi.nosets u hA q
theorem TInv.waits0 (T : Tab) : ∀ k, T.F k = none → (T.ln k).waits = [] := fun k h => by rw [Tab.ln_none h]; rfl
theorem tinv0 (g mb ab : Nat) : TInv (tab0 g mb ab) := by
  have h : ∀ k, (tab0 g mb ab).ln k = ln0 := fun k => rfl
  refine ⟨fun k => ?_, fun k l hk => ?_, fun k x hx => ?_, fun k => ?_, fun t k => ?_, fun t _ k => rfl⟩
  · rw [h]; exact List.Pairwise.nil
  · cases hk
  · rw [h] at hx; rcases hx with hx | hx <;> cases hx
  · rw [h]; exact Nat.zero_le _
  · rw [h]
    constructor
    · intro h2; cases h2
    · rintro ⟨x, hx | hx, _⟩ <;> cases hx
end
/-- A table as it is known from outside: what it says of each key. -/
structure Say where
  has : ByteArray → List Wn
  waits : ByteArray → List Wn
def Say.ask (S : Say) (t : Td) (m : Int) (k : ByteArray) : Say := ⟨fun q => if q = k then (askL t m (S.has k) (S.waits k)).has else S.has q, fun q => if q = k then (askL t m (S.has k) (S.waits k)).waits else S.waits q⟩
def say0 : Say := ⟨fun _ => [], fun _ => []⟩
theorem askL_still {t : Td} {m : Int} {has waits : List Wn} (h : (askL t m has waits).laid = false) : (askL t m has waits).has = has ∧ (askL t m has waits).waits = waits := by
  unfold askL at h ⊢
  split at h
  · rename_i h1; rw [if_pos h1]; exact ⟨rfl, rfl⟩
  · rename_i h1
    rw [if_neg h1]
    split at h
    · rename_i h2; rw [if_pos h2]; exact ⟨rfl, rfl⟩
    · rename_i h2
      rw [if_neg h2]
      unfold wantL at h ⊢
      split at h
      · rename_i h3; rw [if_pos h3]; exact ⟨rfl, rfl⟩
      · split at h <;> cases h
end Go.Proofs.Ytkgecljoodofeaa

/- DueRuns' own list, in plain words and in memory. Own lemmas, no statement. -/
import Derived.Test.YtgoejoiomjmfaaaDue20
namespace Go.Proofs.Ytgoejoiomjmfaaa
open Go.ChangeShapes Go.WideShapes Go.ChangeAt Go.RowKit

/-- The list has what T tells, no thing twice. -/
structure Tab (T : Key → Option Int) (l : List Ent) : Prop where
  iff : ∀ q a, T q = some a ↔ ∃ i : Nat, l[i]? = some (entOf q a)
  inj : ∀ (i j : Nat) (e f : Ent), l[i]? = some e → l[j]? = some f → e.key = f.key → i = j
  wf : ∀ (i : Nat) (e : Ent), l[i]? = some e → e.wf
theorem Tab.nil : Tab (fun _ => none) [] := ⟨fun q a => ⟨fun h => (by cases h), fun ⟨i, h⟩ => (by simp at h)⟩, fun i j e f h => (by simp at h), fun i e h => (by simp at h)⟩
section
variable {T : Key → Option Int} {l : List Ent}
theorem Tab.at (h : Tab T l) {i : Nat} {e : Ent} (he : l[i]? = some e) : T e.key = some e.at_ := (h.iff _ _).2 ⟨i, he⟩
theorem Tab.none (h : Tab T l) {q : Key} (hq : ∀ (i : Nat) (e : Ent), l[i]? = some e → e.key ≠ q) : T q = none := by
  cases ht : T q with
  | none => rfl
  | some a =>
    obtain ⟨i, hi⟩ := (h.iff q a).1 ht
    exact absurd rfl (hq i _ hi)
theorem Tab.set (h : Tab T l) {i : Nat} {e : Ent} (he : l[i]? = some e) {a : Int} (ha : (Lit.int .i64 a).wf = true) : Tab (putT T e.key a) (l.set i (entOf e.key a)) := by
  have hi : i < l.length := (List.getElem?_eq_some_iff.1 he).1
  refine ⟨fun q b => ?_, fun j k x y hx hy hk => ?_, fun j x hx => ?_⟩
  · unfold putT
    constructor
    · intro hq
      split at hq
      · rename_i hk
        cases hq
        exact ⟨i, by rw [List.getElem?_set, if_pos rfl, if_pos hi, hk]⟩
      · rename_i hk
        obtain ⟨j, hj⟩ := (h.iff q b).1 hq
        refine ⟨j, ?_⟩
        rw [List.getElem?_set, if_neg, hj]
        intro e1
        subst e1
        rw [he] at hj
        cases hj
        exact hk rfl
    · rintro ⟨j, hj⟩
      rw [List.getElem?_set] at hj
      split at hj
      · have := entOf_inj (Option.some.inj hj)
        rw [if_pos this.1.symm, this.2]
      · rename_i hne
        have hT := (h.iff q b).2 ⟨j, hj⟩
        rw [if_neg, hT]
        intro hk
        exact hne (h.inj i j e _ he hj (by rw [entOf_key, hk]))
  · have key : ∀ (j : Nat) (x : Ent), (l.set i (entOf e.key a))[j]? = some x → ∃ y, l[j]? = some y ∧ y.key = x.key := fun j x hx => by
      rw [List.getElem?_set] at hx
      split at hx
      · rename_i hij
        subst hij
        cases hx
        exact ⟨e, he, rfl⟩
      · exact ⟨x, hx, rfl⟩
    obtain ⟨x', hx', e1⟩ := key j x hx
    obtain ⟨y', hy', e2⟩ := key k y hy
    exact h.inj j k x' y' hx' hy' (by rw [e1, e2, hk])
  · rw [List.getElem?_set] at hx
    split at hx
    · cases hx
      exact ⟨ha, (h.wf i e he).2⟩
    · exact h.wf j x hx
theorem Tab.snoc (h : Tab T l) {e : Ent} (hw : e.wf) (hn : ∀ (i : Nat) (x : Ent), l[i]? = some x → x.key ≠ e.key) : Tab (putT T e.key e.at_) (l ++ [e]) := by
  have look : ∀ (j : Nat) (x : Ent), (l ++ [e])[j]? = some x → (l[j]? = some x) ∨ (j = l.length ∧ x = e) := fun j x hx => by
    rcases Nat.lt_or_ge j l.length with hj | hj
    · rw [List.getElem?_append_left hj] at hx
      exact .inl hx
    · rw [List.getElem?_append_right hj] at hx
      rcases Nat.eq_zero_or_pos (j - l.length) with h0 | h0
      · rw [h0] at hx
        simp at hx
        exact .inr ⟨by omega, hx.symm⟩
      · rw [List.getElem?_eq_none (by simp; omega)] at hx
        cases hx
  have last : (l ++ [e])[l.length]? = some e := by simp
  have old : ∀ (j : Nat) (x : Ent), l[j]? = some x → (l ++ [e])[j]? = some x := fun j x hx => by
    rw [List.getElem?_append_left (List.getElem?_eq_some_iff.1 hx).1]; exact hx
  refine ⟨fun q b => ?_, fun j k x y hx hy hk => ?_, fun j x hx => ?_⟩
  · unfold putT
    constructor
    · intro hq
      split at hq
      · rename_i hk
        cases hq
        exact ⟨l.length, by rw [last, hk]; rfl⟩
      · obtain ⟨j, hj⟩ := (h.iff q b).1 hq
        exact ⟨j, old j _ hj⟩
    · rintro ⟨j, hj⟩
      rcases look j _ hj with hj | ⟨_, hj⟩
      · rw [if_neg, (h.iff q b).2 ⟨j, hj⟩]
        intro hk
        exact hn j _ hj hk
      · rw [← hj]
        simp only [entOf_key, if_true]
        rfl
  · rcases look j x hx with h1 | ⟨h1, rfl⟩
    · rcases look k y hy with h2 | ⟨h2, rfl⟩
      · exact h.inj j k x y h1 h2 hk
      · exact absurd hk (hn j x h1)
    · rcases look k y hy with h2 | ⟨h2, rfl⟩
      · exact absurd hk.symm (hn k y h2)
      · omega
  · rcases look j x hx with h1 | ⟨h1, rfl⟩
    · exact h.wf j x h1
    · exact hw
theorem Tab.erase (h : Tab T l) {i : Nat} {e : Ent} (he : l[i]? = some e) : Tab (delT T e.key) (l.eraseIdx i) := by
  have back : ∀ j : Nat, (l.eraseIdx i)[j]? = l[if j < i then j else j + 1]? := fun j => by
    rw [List.getElem?_eraseIdx]
    split <;> rfl
  refine ⟨fun q b => ?_, fun j k x y hx hy hk => ?_, fun j x hx => ?_⟩
  · unfold delT
    constructor
    · intro hq
      split at hq
      · cases hq
      · rename_i hk
        obtain ⟨j, hj⟩ := (h.iff q b).1 hq
        have hne : j ≠ i := fun e1 => by
          subst e1
          rw [he] at hj
          cases hj
          exact hk rfl
        rcases Nat.lt_or_ge j i with h1 | h1
        · exact ⟨j, by rw [back, if_pos h1]; exact hj⟩
        · exact ⟨j - 1, by rw [back, if_neg (by omega), show j - 1 + 1 = j by omega]; exact hj⟩
    · rintro ⟨j, hj⟩
      rw [back] at hj
      have hT := (h.iff q b).2 ⟨_, hj⟩
      rw [if_neg, hT]
      intro hk
      have := h.inj i _ e _ he hj (by rw [entOf_key, hk])
      split at this <;> omega
  · rw [back] at hx hy
    have := h.inj _ _ x y hx hy hk
    split at this <;> split at this <;> omega
  · rw [back] at hx
    exact h.wf _ x hx
end

/-- What the first look finds among the first k. -/
def Found (l : List Ent) (q : Key) (k : Nat) (at_ : Int) : Prop := (at_ = -1 ∧ ∀ (i : Nat) (e : Ent), i < k → l[i]? = some e → e.key ≠ q) ∨ ∃ (i : Nat) (e : Ent), i < k ∧ at_ = (i : Int) ∧ l[i]? = some e ∧ e.key = q
theorem Found.start (l : List Ent) (q : Key) : Found l q 0 (-1) := .inl ⟨rfl, fun i e h => by omega⟩
theorem Found.no {l : List Ent} {q : Key} {k : Nat} {at_ : Int} (h : Found l q k at_) {e : Ent} (he : l[k]? = some e) (hk : e.key ≠ q) : Found l q (k + 1) at_ := by
  rcases h with ⟨h1, h2⟩ | ⟨i, x, h1, h2, h3⟩
  · refine .inl ⟨h1, fun i x hi hx => ?_⟩
    rcases Nat.lt_or_ge i k with h | h
    · exact h2 i x h hx
    · obtain rfl : i = k := by omega
      rw [he] at hx
      cases hx
      exact hk
  · exact .inr ⟨i, x, by omega, h2, h3⟩
theorem Found.yes {l : List Ent} {q : Key} {k : Nat} {e : Ent} (he : l[k]? = some e) (hk : e.key = q) : Found l q (k + 1) (k : Int) := .inr ⟨k, e, by omega, rfl, he, hk⟩
/-- The best among the first k that are due by then. -/
def Best (l : List Ent) (now : Int) (k : Nat) (b : Int) : Prop := (b = -1 ∧ ∀ (i : Nat) (e : Ent), i < k → l[i]? = some e → now < e.at_) ∨ ∃ (i : Nat) (e : Ent), i < k ∧ b = (i : Int) ∧ l[i]? = some e ∧ e.at_ ≤ now ∧ ∀ (j : Nat) (x : Ent), j < k → l[j]? = some x → x.at_ ≤ now → lessE x e = false
theorem Best.start (l : List Ent) (now : Int) : Best l now 0 (-1) := .inl ⟨rfl, fun i e h => by omega⟩
theorem Best.late {l : List Ent} {now : Int} {k : Nat} {b : Int} (h : Best l now k b) {e : Ent} (he : l[k]? = some e) (hl : now < e.at_) : Best l now (k + 1) b := by
  rcases h with ⟨h1, h2⟩ | ⟨i, x, h1, h2, h3, h4, h5⟩
  · refine .inl ⟨h1, fun i x hi hx => ?_⟩
    rcases Nat.lt_or_ge i k with h | h
    · exact h2 i x h hx
    · obtain rfl : i = k := by omega
      rw [he] at hx
      cases hx
      exact hl
  · refine .inr ⟨i, x, by omega, h2, h3, h4, fun j y hj hy hn => ?_⟩
    rcases Nat.lt_or_ge j k with h | h
    · exact h5 j y h hy hn
    · obtain rfl : j = k := by omega
      rw [he] at hy
      cases hy
      omega
theorem Best.first {l : List Ent} {now : Int} {k : Nat} (h : Best l now k (-1)) {e : Ent} (he : l[k]? = some e) (hl : e.at_ ≤ now) : Best l now (k + 1) (k : Int) := by
  rcases h with ⟨_, h2⟩ | ⟨i, x, h1, h2, _⟩
  · refine .inr ⟨k, e, by omega, rfl, he, hl, fun j y hj hy hn => ?_⟩
    rcases Nat.lt_or_ge j k with h | h
    · have := h2 j y h hy
      omega
    · obtain rfl : j = k := by omega
      rw [he] at hy
      cases hy
      exact lessE_ord.irr _
  · omega
theorem Best.ahead {l : List Ent} {now : Int} {k i : Nat} (h : Best l now k (i : Int)) {e x : Ent} (hx : l[i]? = some x) (he : l[k]? = some e) (hl : e.at_ ≤ now) (hlt : lessE e x = true) : Best l now (k + 1) (k : Int) := by
  rcases h with ⟨h1, _⟩ | ⟨i', x', h1, h2, h3, h4, h5⟩
  · omega
  · obtain rfl : i = i' := by omega
    rw [hx] at h3
    cases h3
    refine .inr ⟨k, e, by omega, rfl, he, hl, fun j y hj hy hn => ?_⟩
    rcases Nat.lt_or_ge j k with h | h
    · have := h5 j y h hy hn
      exact lessE_ord.le_trans (lessE_ord.asymm hlt) this
    · obtain rfl : j = k := by omega
      rw [he] at hy
      cases hy
      exact lessE_ord.irr _
theorem Best.stays {l : List Ent} {now : Int} {k i : Nat} (h : Best l now k (i : Int)) {e x : Ent} (hx : l[i]? = some x) (he : l[k]? = some e) (hlt : lessE e x = false) : Best l now (k + 1) (i : Int) := by
  rcases h with ⟨h1, _⟩ | ⟨i', x', h1, h2, h3, h4, h5⟩
  · omega
  · obtain rfl : i = i' := by omega
    rw [hx] at h3
    cases h3
    refine .inr ⟨i, x, by omega, rfl, hx, h4, fun j y hj hy hn => ?_⟩
    rcases Nat.lt_or_ge j k with h | h
    · exact h5 j y h hy hn
    · obtain rfl : j = k := by omega
      rw [he] at hy
      cases hy
      exact hlt
/-- What Next takes is the best. -/
theorem Best.taken {T : Key → Option Int} {l : List Ent} {now b : Int} {e : Ent} (hT : Tab T l) (h : Best l now l.length b) (ht : T e.key = some e.at_) (ha : e.at_ ≤ now) (hm : ∀ q a, T q = some a → lessE (entOf q a) e = false) : ∃ i : Nat, b = (i : Int) ∧ l[i]? = some e := by
  obtain ⟨j, hj⟩ := (hT.iff _ _).1 ht
  have hjl := (List.getElem?_eq_some_iff.1 hj).1
  rcases h with ⟨_, h2⟩ | ⟨i, x, h1, h2, h3, h4, h5⟩
  · have := h2 j _ hjl hj
    unfold entOf at this
    simp only at this
    omega
  · have e1 := hm _ _ (hT.at h3)
    have e2 := h5 j _ hjl hj ha
    have : x = e := lessE_total e1 e2
    subst this
    exact ⟨i, h2, h3⟩
theorem Best.nothing {T : Key → Option Int} {l : List Ent} {now b : Int} (hT : Tab T l) (h : Best l now l.length b) (hn : ∀ q a, T q = some a → now < a) : b = -1 := by
  rcases h with ⟨h1, _⟩ | ⟨i, x, h1, h2, h3, h4, h5⟩
  · exact h1
  · have := hn _ _ (hT.at h3)
    omega
end Go.Proofs.Ytgoejoiomjmfaaa

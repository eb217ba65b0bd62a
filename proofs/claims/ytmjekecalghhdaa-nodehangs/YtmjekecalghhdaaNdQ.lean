/- Where a text stands in the two halves of a rising list. Plain lemmas. -/
import Derived.Test.YtmjekecalghhdaaNd8
import Derived.Test.YtmjekecalghhdaaOpen
namespace Go.Proofs.Ytmjekecalghhdaa
open Go.RowKit

theorem idx_all (k : ByteArray) : ∀ (xs ys : List ByteArray), (∀ x ∈ xs, ltK x k = true) → idxB k (xs ++ ys) = xs.length + idxB k ys ∧ hasB k (xs ++ ys) = hasB k ys
  | [], ys, _ => by simp
  | x :: xs, ys, h => by
    obtain ⟨h1, h2⟩ := idx_all k xs ys (fun y hy => h y (List.mem_cons_of_mem _ hy))
    have hx := h x List.mem_cons_self
    simp only [List.cons_append, idxB, hasB, hx, if_true, h1, h2, List.length_cons]
    exact ⟨by omega, trivial⟩
theorem idx_some (k : ByteArray) : ∀ (xs ys : List ByteArray), (∃ x ∈ xs, ltK x k = false) → idxB k (xs ++ ys) = idxB k xs ∧ hasB k (xs ++ ys) = hasB k xs
  | [], ys, ⟨_, h, _⟩ => by cases h
  | x :: xs, ys, ⟨y, hy, hk⟩ => by
    cases hx : ltK x k with
    | false => simp [idxB, hasB, hx]
    | true =>
      rcases List.mem_cons.1 hy with rfl | hy
      · rw [hk] at hx; cases hx
      · obtain ⟨h1, h2⟩ := idx_some k xs ys ⟨y, hy, hk⟩
        simp [idxB, hasB, hx, h1, h2]
theorem idx_len (k : ByteArray) (xs : List ByteArray) (h : ∀ x ∈ xs, ltK x k = true) : idxB k xs = xs.length ∧ hasB k xs = false := by
  have := idx_all k xs [] h
  simpa [idxB, hasB] using this
theorem idx_less {k y : ByteArray} {ys : List ByteArray} (h : ltK k y = true) : idxB k (y :: ys) = 0 ∧ hasB k (y :: ys) = false := by
  have := ltK_asymm h
  simp [idxB, hasB, this, h]
/-- Ahead of the key between: the first half tells the same. -/
theorem half_first {k s : ByteArray} {xs ys : List ByteArray} (h : ltK k s = true) : idxB k (xs ++ s :: ys) = idxB k xs ∧ hasB k (xs ++ s :: ys) = hasB k xs := by
  by_cases hx : ∃ x ∈ xs, ltK x k = false
  · exact idx_some k xs _ hx
  · have hall : ∀ x ∈ xs, ltK x k = true := fun x hx' => by
      cases e : ltK x k with
      | true => rfl
      | false => exact absurd ⟨x, hx', e⟩ hx
    obtain ⟨a1, a2⟩ := idx_all k xs (s :: ys) hall
    obtain ⟨b1, b2⟩ := idx_len k xs hall
    obtain ⟨c1, c2⟩ := idx_less (ys := ys) h
    rw [a1, a2, b1, b2, c1, c2]
    exact ⟨rfl, rfl⟩
theorem ris_lt {xs ys : List ByteArray} {s : ByteArray} (h : RisB (xs ++ s :: ys)) : (∀ x ∈ xs, ltK x s = true) ∧ ∀ y ∈ ys, ltK s y = true := by
  have h' := List.pairwise_append.1 h
  exact ⟨fun x hx => h'.2.2 x hx s List.mem_cons_self, fun y hy => (List.pairwise_cons.1 h'.2.1).1 y hy⟩
theorem lt_of_le {x s k : ByteArray} (h : ltK x s = true) (hk : ltK k s = false) : ltK x k = true := by
  cases e : ltK s k with
  | true => exact ltK_trans h e
  | false => rw [← ltK_total e hk]; exact h
/-- From the key between on: the second half. -/
theorem half_second {k s : ByteArray} {xs ys : List ByteArray} (hr : RisB (xs ++ s :: ys)) (h : ltK k s = false) : idxB k (xs ++ s :: ys) = xs.length + idxB k (s :: ys) ∧ hasB k (xs ++ s :: ys) = hasB k (s :: ys) :=
  idx_all k xs _ fun x hx => lt_of_le ((ris_lt hr).1 x hx) h
def cntB (k : ByteArray) (ks : List ByteArray) : Nat := if hasB k ks = true then idxB k ks + 1 else idxB k ks
theorem cnt_second {k s : ByteArray} {xs ys : List ByteArray} (hr : RisB (xs ++ s :: ys)) (h : ltK k s = false) : cntB k (xs ++ s :: ys) = xs.length + 1 + cntB k ys := by
  obtain ⟨a1, a2⟩ := half_second hr h
  unfold cntB
  rw [a1, a2]
  cases e : ltK s k with
  | true =>
    simp only [idxB, hasB, e, if_true]
    split <;> omega
  | false =>
    have hs := ltK_total e h
    subst hs
    have h1 : hasB s (s :: ys) = true := by simp [hasB, e]
    have h2 : idxB s (s :: ys) = 0 := by simp [idxB, e]
    have h3 : idxB s ys = 0 ∧ hasB s ys = false := by
      cases ys with
      | nil => exact ⟨rfl, rfl⟩
      | cons y ys => exact idx_less ((ris_lt hr).2 y List.mem_cons_self)
    rw [h1, h2, h3.1, h3.2]
    simp
theorem cnt_first {k s : ByteArray} {xs ys : List ByteArray} (h : ltK k s = true) : cntB k (xs ++ s :: ys) = cntB k xs := by
  obtain ⟨a1, a2⟩ := half_first (xs := xs) (ys := ys) h
  unfold cntB
  rw [a1, a2]
theorem cnt_le (k : ByteArray) (ks : List ByteArray) : cntB k ks ≤ ks.length := by
  unfold cntB
  split
  · rename_i h; exact hasB_lt h
  · exact idxB_le k ks
theorem split_at {ks : List ByteArray} {h : Nat} {s : ByteArray} (hs : ks[h]? = some s) : ks = ks.take h ++ s :: ks.drop (h + 1) := by
  obtain ⟨hl, rfl⟩ := List.getElem?_eq_some_iff.1 hs
  rw [← List.drop_eq_getElem_cons hl, List.take_append_drop]

/-- What came in can be read. -/
theorem isStrs_rd {w : World} {a : Option Addr} {n c : Nat} {ss : List ByteArray} (h : IsStrs w a n c ss) : Rd w (.slice a n c) (sv ss) := by
  obtain ⟨rfl, h1, h2, h3, h4⟩ := h
  refine ⟨a, c, by rw [sv_length], by rw [sv_length]; exact h1, h2, fun e => ?_, fun ad had j u hu => ?_⟩
  · obtain ⟨e1, e2⟩ := h3 e
    have : ss = [] := List.eq_nil_of_length_eq_zero e1
    subst this
    exact ⟨rfl, e2⟩
  · subst had
    unfold sv at hu
    rw [List.getElem?_map] at hu
    cases hj : ss[j]? with
    | none => rw [hj] at hu; cases hu
    | some x =>
      rw [hj] at hu
      cases hu
      obtain ⟨hl, rfl⟩ := List.getElem?_eq_some_iff.1 hj
      exact (h4 ad rfl j hl).1

/-- Get of a leaf tells the same as of the half in which a key is sought. -/
theorem get_half {ks : List ByteArray} (hr : RisB ks) {s k : ByteArray} (hs : ks[ks.length / 2]? = some s) : getP (leafM ks) k = getP (if ltK k s = true then leafA (leafM ks) else leafB (leafM ks)) k := by
  have hl := (List.getElem?_eq_some_iff.1 hs).1
  obtain ⟨h, hh⟩ : ∃ h, ks.length / 2 = h := ⟨_, rfl⟩
  have hsp := split_at hs
  rw [hh] at hs hl hsp
  have hd : ks.drop h = s :: ks.drop (h + 1) := by
    obtain ⟨hl', rfl⟩ := List.getElem?_eq_some_iff.1 hs
    exact List.drop_eq_getElem_cons hl'
  have f1 : leafP (leafM ks) = true := by simp [leafP, leafM]
  have f2 : leafP (leafA (leafM ks)) = true := by simp [leafP, leafA, leafM]
  have f3 : leafP (leafB (leafM ks)) = true := by simp [leafP, leafB, leafM]
  cases hk : ltK k s with
  | true =>
    rw [if_pos rfl]
    obtain ⟨a1, a2⟩ := half_first (xs := ks.take h) (ys := ks.drop (h + 1)) hk
    rw [← hsp] at a1 a2
    unfold getP
    rw [f1, f2]
    show (if hasB k ks = true ∧ true = true then _ else _) = (if hasB k (ks.take (ks.length / 2)) = true ∧ true = true then _ else _)
    rw [hh, ← a2]
    by_cases hb : hasB k ks = true
    · rw [if_pos ⟨hb, rfl⟩, if_pos ⟨hb, rfl⟩]
      have hlt : idxB k (ks.take h) < (ks.take h).length := hasB_lt (by rw [← a2]; exact hb)
      show (((ks.map vk).getD (idxB k ks) .empty), true) = ((((ks.map vk).take (ks.length / 2)).getD (idxB k (ks.take (ks.length / 2))) .empty), true)
      rw [hh, ← a1]
      rw [← a1, List.length_take] at hlt
      simp only [List.getD, List.getElem?_take, show idxB k ks < h by omega, if_true]
    · rw [if_neg (fun e => hb e.1), if_neg (fun e => hb e.1)]
  | false =>
    rw [if_neg (by simp)]
    obtain ⟨a1, a2⟩ := half_second (xs := ks.take h) (ys := ks.drop (h + 1)) (by rw [← hsp]; exact hr) hk
    rw [← hsp, ← hd] at a1 a2
    have ht : (ks.take h).length = h := by simp; omega
    rw [ht] at a1
    unfold getP
    rw [f1, f3]
    show (if hasB k ks = true ∧ true = true then _ else _) = (if hasB k (ks.drop (ks.length / 2)) = true ∧ true = true then _ else _)
    rw [hh, ← a2]
    by_cases hb : hasB k ks = true
    · rw [if_pos ⟨hb, rfl⟩, if_pos ⟨hb, rfl⟩]
      show (((ks.map vk).getD (idxB k ks) .empty), true) = ((((ks.map vk).drop (ks.length / 2)).getD (idxB k (ks.drop (ks.length / 2))) .empty), true)
      rw [hh, a1]
      simp only [List.getD, List.getElem?_drop]
    · rw [if_neg (fun e => hb e.1), if_neg (fun e => hb e.1)]
end Go.Proofs.Ytmjekecalghhdaa

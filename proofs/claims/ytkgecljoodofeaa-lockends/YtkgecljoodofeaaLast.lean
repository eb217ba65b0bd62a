/- A region that draws its order, whose last operation waits for all others: what comes ahead of it may be walked by itself. Own lemmas, no statement. -/
import Derived.Test.YtkgecljoodofeaaSeg
namespace Go.Proofs.Ytkgecljoodofeaa
open Go.RowKit

/-- The last operation waits for each other one, none waits for a later one, none is guarded. -/
def lastOk (md : Region.Mode) (ops : Array Oper) (L : Nat) : Bool :=
  decide (ops.size = L + 1) && ops.all (fun o => o.guard.isNone) && (List.range (L + 1)).all (fun i => ((ops[i]?).map (·.after.all fun e => !Region.binds md e || decide (e.on < i))).getD true) &&
    (List.range L).all fun i => ((ops[L]?).map (·.after.any fun e => Region.binds md e && decide (e.on = i))).getD false
def exQ (Q : Exit → Act → World → Prop) (R : Act → World → Prop) : Exit → Act → World → Prop
  | .normal, a, w => R a w
  | e, a, w => Q e a w
theorem exQ_normal {Q : Exit → Act → World → Prop} {R : Act → World → Prop} {a : Act} {w : World} (h : R a w) : exQ Q R .normal a w := h

section
variable {P : Program} {ops : Array Oper} {Q : Exit → Act → World → Prop} {md : Region.Mode} {L : Nat}
theorem wp_exQ {o : Oper} {a : Act} {w : World} {K : Act → World → Prop} {R : Act → World → Prop} (h : o.wp P a w K (exQ Q R)) : o.wp P a w K Q := by
  unfold Oper.wp at h ⊢
  generalize (execOp a.eval o).run P w = r at *
  cases r with
  | ok n w' => cases n <;> exact h
  | halt x w' => cases x <;> exact h

theorem ready_mem {listed : Array Bool} {i : Nat} : i ∈ Region.ready md ops listed ↔ i < ops.size ∧ listed.getD i true = false ∧ ((ops[i]?).map (·.after.all fun e => !Region.binds md e || listed.getD e.on false)).getD false = true := by
  unfold Region.ready
  simp only [List.mem_filter, List.mem_range, Bool.and_eq_true, Bool.not_eq_true']
theorem push_lt {l : Array Bool} {j : Nat} {d : Bool} (hj : j < l.size) : (l.push false).getD j d = l.getD j d := by
  simp [Array.getD, hj, Array.getElem_push_lt hj, Nat.lt_succ_of_lt hj]
theorem push_at {l : Array Bool} {d : Bool} : (l.push false).getD l.size d = false := by
  simp [Array.getD]

/-- Where not all have come up one of them may. -/
theorem ready_least (h : lastOk md ops L = true) {l : Array Bool} (hl : l.size = L) (hr : Region.ready md ops.pop l = []) : ∀ i, i < L → l.getD i true = true := by
  unfold lastOk at h
  simp only [Bool.and_eq_true, decide_eq_true_eq, List.all_eq_true, List.mem_range] at h
  obtain ⟨⟨⟨h1, h2⟩, h3⟩, h4⟩ := h
  intro i
  induction i using Nat.strongRecOn with
  | _ i ih =>
    intro hi
    cases hb : l.getD i true with
    | true => rfl
    | false =>
      exfalso
      have hm : i ∈ Region.ready md ops.pop l := by
        rw [ready_mem]
        refine ⟨by simp; omega, hb, ?_⟩
        have hi' : i < ops.size := by omega
        have e1 : ops.pop[i]? = some ops[i] := by rw [Array.getElem?_pop]; simp [hi']; omega
        rw [e1]
        have := h3 i (by omega)
        rw [Array.getElem?_eq_getElem hi'] at this
        simp only [Option.map_some, Option.getD_some, Array.all_eq_true'] at this ⊢
        intro e he
        have := this e he
        simp only [Bool.or_eq_true, Bool.not_eq_true', decide_eq_true_eq] at this ⊢
        rcases this with x | x
        · exact .inl x
        · right
          have := ih e.on x (by omega)
          have hs : e.on < l.size := by omega
          simpa [Array.getD, hs] using this
      rw [hr] at hm
      cases hm
theorem ready_same (h : lastOk md ops L = true) {l : Array Bool} (hl : l.size = L) {j : Nat} (hj : j < L) (hf : l.getD j true = false) (i : Nat) : i ∈ Region.ready md ops (l.push false) ↔ i ∈ Region.ready md ops.pop l := by
  unfold lastOk at h
  simp only [Bool.and_eq_true, decide_eq_true_eq, List.all_eq_true, List.mem_range] at h
  obtain ⟨⟨⟨h1, h2⟩, h3⟩, h4⟩ := h
  rw [ready_mem, ready_mem]
  have key : ∀ i, i < L → (((ops[i]?).map (·.after.all fun e => !Region.binds md e || (l.push false).getD e.on false)).getD false = true ↔ ((ops.pop[i]?).map (·.after.all fun e => !Region.binds md e || l.getD e.on false)).getD false = true) := by
    intro i hi
    have hi' : i < ops.size := by omega
    have e1 : ops.pop[i]? = some ops[i] := by rw [Array.getElem?_pop]; simp [hi']; omega
    rw [e1, Array.getElem?_eq_getElem hi']
    have := h3 i (by omega)
    rw [Array.getElem?_eq_getElem hi'] at this
    simp only [Option.map_some, Option.getD_some, Array.all_eq_true'] at this ⊢
    refine forall_congr' fun e => forall_congr' fun he => ?_
    have := this e he
    simp only [Bool.or_eq_true, Bool.not_eq_true', decide_eq_true_eq] at this ⊢
    rcases this with x | x
    · simp [x]
    · rw [push_lt (by omega)]
  by_cases hi : i < L
  · rw [key i hi, push_lt (by omega)]
    simp only [Array.size_pop]
    constructor
    · rintro ⟨_, b, c⟩; exact ⟨by omega, b, c⟩
    · rintro ⟨_, b, c⟩; exact ⟨by omega, b, c⟩
  · constructor
    · rintro ⟨a, b, c⟩
      have : i = L := by omega
      subst this
      exfalso
      have h5 := h4 j hj
      have hi' : i < ops.size := by omega
      rw [Array.getElem?_eq_getElem hi'] at h5 c
      simp only [Option.map_some, Option.getD_some, Array.all_eq_true', Array.any_eq_true'] at h5 c
      obtain ⟨e, he, h6⟩ := h5
      have := c e he
      simp only [Bool.and_eq_true, Bool.or_eq_true, Bool.not_eq_true', decide_eq_true_eq] at h6 this
      rcases this with x | x
      · rw [x] at h6; cases h6.1
      · rw [h6.2, push_lt (by omega)] at x
        have hs : j < l.size := by omega
        simp [Array.getD, hs] at x hf
        rw [x] at hf
        cases hf
    · rintro ⟨a, b, c⟩
      simp at a
      omega

theorem ready_all {l : Array Bool} (h : ∀ i, i < ops.size → l.getD i true = true) : Region.ready md ops l = [] := by
  rw [List.eq_nil_iff_forall_not_mem]
  intro i hi
  rw [ready_mem] at hi
  rw [h i hi.1] at hi
  exact absurd hi.2.1 (by simp)
theorem wpAny_end {l : Array Bool} {a : Act} {w : World} (hr : Region.ready md ops l = []) (h : Q .normal a w) : ∀ fuel, wpAny P md ops Q fuel l a w
  | 0 => ⟨hr, h⟩
  | _ + 1 => ⟨fun _ => h, by rw [hr]; simp⟩

theorem wpAny_pop (h : lastOk md ops L = true) {R : Act → World → Prop} (hR : ∀ a w, R a w → wpOp P ops Q L (Q .normal) a w) : ∀ (fuel : Nat) (l : Array Bool) (a : Act) (w : World), l.size = L → wpAny P md ops.pop (exQ Q R) fuel l a w → wpAny P md ops Q (fuel + 1) (l.push false) a w := by
  have hb := h
  unfold lastOk at hb
  simp only [Bool.and_eq_true, decide_eq_true_eq, List.all_eq_true, List.mem_range, Array.all_eq_true'] at hb
  obtain ⟨⟨⟨h1, h2⟩, h3⟩, h4⟩ := hb
  have fin : ∀ (fuel : Nat) (l : Array Bool) (a : Act) (w : World), l.size = L → (∀ i, i < L → l.getD i true = true) → R a w → wpAny P md ops Q (fuel + 1) (l.push false) a w := by
    intro fuel l a w hl hall hr
    have hL : ∀ i, i ∈ Region.ready md ops (l.push false) → i = L := by
      intro i hi
      rw [ready_mem] at hi
      rcases Nat.lt_or_ge i L with x | x
      · have := hi.2.1
        rw [push_lt (by omega), hall i x] at this
        cases this
      · omega
    have hm : L ∈ Region.ready md ops (l.push false) := by
      rw [ready_mem]
      refine ⟨by omega, by rw [← hl]; exact push_at, ?_⟩
      have hi' : L < ops.size := by omega
      have := h3 L (by omega)
      rw [Array.getElem?_eq_getElem hi'] at this ⊢
      simp only [Option.map_some, Option.getD_some, Array.all_eq_true'] at this ⊢
      intro e he
      have := this e he
      simp only [Bool.or_eq_true, Bool.not_eq_true', decide_eq_true_eq] at this ⊢
      rcases this with x | x
      · exact .inl x
      · right
        have hs : e.on < l.size := by omega
        rw [push_lt hs]
        have := hall e.on x
        simpa [Array.getD, hs] using this
    refine ⟨fun e => (by rw [e] at hm; cases hm), fun i hi => ?_⟩
    have := hL i hi
    subst this
    refine wpOp_mono (fun a' w' hq => wpAny_end (ready_all ?_) hq fuel) (hR a w hr)
    · intro j hj
      rcases Nat.lt_or_ge j i with x | x
      · have hne : j ≠ i := by omega
        have := hall j x
        have hs : j < l.size := by omega
        simp [Array.getD, hs, Array.getElem_setIfInBounds, Array.getElem_push_lt hs, Nat.lt_succ_of_lt hs] at this ⊢
        exact .inr this
      · have : j = i := by omega
        subst this
        simp [Array.getD, hl]
  intro fuel
  induction fuel with
  | zero =>
    intro l a w hl hw
    exact fin 0 l a w hl (ready_least h hl hw.1) hw.2
  | succ fuel ih =>
    intro l a w hl hw
    by_cases hr : Region.ready md ops.pop l = []
    · exact fin (fuel + 1) l a w hl (ready_least h hl hr) (hw.1 hr)
    · obtain ⟨j, hj⟩ := List.exists_mem_of_ne_nil _ hr
      have hj' := ready_mem.1 hj
      simp only [Array.size_pop] at hj'
      have hsame := ready_same h hl (show j < L by omega) hj'.2.1
      refine ⟨fun e => ?_, fun i hi => ?_⟩
      · have := (hsame j).2 hj
        rw [e] at this
        cases this
      · have hi2 := (hsame i).1 hi
        have hi3 := (ready_mem.1 hi2).1
        simp only [Array.size_pop] at hi3
        have hiL : i < L := by omega
        have hs := hw.2 i hi2
        have hio : i < ops.size := by omega
        have e1 : ops.pop[i]? = some ops[i] := by rw [Array.getElem?_pop]; simp [hio]; omega
        have hgd : (ops[i]).guard = none := by
          have := h2 ops[i] (Array.getElem_mem hio)
          simpa using this
        have hset : (l.push false).setIfInBounds i true = (l.setIfInBounds i true).push false := by
          apply Array.ext_getElem?
          intro k
          rcases Nat.lt_trichotomy k l.size with x | x | x
          · rw [Array.getElem?_push_lt (by simpa using x)]
            simp only [Array.getElem?_setIfInBounds, Array.size_push, Array.getElem?_eq_getElem (show k < (l.push false).size by simp; omega), Array.getElem_push_lt x]
            by_cases hik : i = k
            · subst hik; simp [Nat.lt_succ_of_lt x]
            · simp [hik, Array.getElem_setIfInBounds_ne x hik]
          · subst x
            rw [show l.size = (l.setIfInBounds i true).size by simp, Array.getElem?_push_size]
            simp only [Array.size_setIfInBounds, Array.getElem?_setIfInBounds, Array.getElem?_push_size]
            rw [if_neg (by omega)]
          · rw [Array.getElem?_eq_none (by simp; omega), Array.getElem?_eq_none (by simp; omega)]
        unfold wpOp at hs ⊢
        rw [e1] at hs
        rw [Array.getElem?_eq_getElem hio]
        simp only [Region.wanted, hgd, if_true] at hs ⊢
        rw [hset]
        rcases hs with x | ⟨x, y⟩
        · exact .inl (Oper.wp_mono (fun a' w' hk => ih _ a' w' (by simpa using hl) hk) (wp_exQ x))
        · exact .inr ⟨x, y⟩

theorem wp_region_last {id : Nat} {a : Act} {w : World} (S : World → Prop) (L : Nat) (hm : P.follows .mixedOrders = true) (h : lastOk .any ops L = true)
    (hw : wpAnyH P .any ops.pop (exQ (NoPanic Q) (fun a w => wpOp P ops (NoPanic Q) L (Q .normal) a w)) S L (Array.replicate L false) a w.drew) : (Code.region id ops true).wp P Q a w := by
  have h1 : ops.size = L + 1 := by
    unfold lastOk at h
    simp only [Bool.and_eq_true, decide_eq_true_eq] at h
    exact h.1.1.1
  refine wp_region_noPanic (wp_region_any hm ?_)
  have := wpAny_pop (Q := NoPanic Q) h (R := fun a w => wpOp P ops (NoPanic Q) L (Q .normal) a w) (fun a w x => x) L (Array.replicate L false) a w.drew (by simp) (wpAny_of_held _ _ _ _ hw)
  rw [h1, Array.replicate_succ]
  exact this
end
end Go.Proofs.Ytkgecljoodofeaa

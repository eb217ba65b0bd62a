/- Heaps by their places, in plain words: what a walk up, a walk down, a new one, a lost one leave. Own lemmas, no statement. -/
import Derived.Test.YtgoejoiomjmfaaaRows
namespace Go.Proofs.Ytgoejoiomjmfaaa

/-- An order in which no two are level but equal ones. -/
structure Ord {α : Type} (lt : α → α → Bool) : Prop where
  irr : ∀ a, lt a a = false
  trans : ∀ a b c, lt a b = true → lt b c = true → lt a c = true
  neg : ∀ a b c, lt a c = true → lt a b = true ∨ lt b c = true

def par (i : Nat) : Nat := (i - 1) / 2
theorem par_lt {i : Nat} (h : 0 < i) : par i < i := by unfold par; omega
theorem par_child {c i : Nat} (hc : 0 < c) : par c = i ↔ c = 2 * i + 1 ∨ c = 2 * i + 2 := by unfold par; omega

def swapF {α : Type} (A : Nat → α) (i j : Nat) : Nat → α := fun k => if k = i then A j else if k = j then A i else A k
theorem swapF_l {α : Type} (A : Nat → α) (i j : Nat) : swapF A i j i = A j := by simp [swapF]
theorem swapF_r {α : Type} (A : Nat → α) (i j : Nat) : swapF A i j j = A i := by unfold swapF; split; rename_i h; rw [h]; simp
theorem swapF_o {α : Type} (A : Nat → α) {i j k : Nat} (h1 : k ≠ i) (h2 : k ≠ j) : swapF A i j k = A k := by simp [swapF, h1, h2]

/-- The same things, in whatever places. -/
def SameOn {α : Type} (n : Nat) (A B : Nat → α) : Prop := (∀ i, i < n → ∃ j, j < n ∧ B i = A j) ∧ ∀ j, j < n → ∃ i, i < n ∧ B i = A j
theorem SameOn.refl {α : Type} (n : Nat) (A : Nat → α) : SameOn n A A := ⟨fun i h => ⟨i, h, rfl⟩, fun j h => ⟨j, h, rfl⟩⟩
theorem SameOn.trans {α : Type} {n : Nat} {A B C : Nat → α} (h : SameOn n A B) (k : SameOn n B C) : SameOn n A C :=
  ⟨fun i hi => by obtain ⟨j, hj, e⟩ := k.1 i hi; obtain ⟨l, hl, e2⟩ := h.1 j hj; exact ⟨l, hl, e.trans e2⟩, fun j hj => by obtain ⟨i, hi, e⟩ := h.2 j hj; obtain ⟨l, hl, e2⟩ := k.2 i hi; exact ⟨l, hl, e2.trans e⟩⟩
theorem SameOn.swap {α : Type} {n i j : Nat} (A : Nat → α) (hi : i < n) (hj : j < n) : SameOn n A (swapF A i j) := by
  constructor
  · intro k hk
    by_cases h1 : k = i
    · subst h1; exact ⟨j, hj, swapF_l A _ _⟩
    · by_cases h2 : k = j
      · subst h2; exact ⟨i, hi, swapF_r A _ _⟩
      · exact ⟨k, hk, swapF_o A h1 h2⟩
  · intro k hk
    by_cases h1 : k = i
    · subst h1; exact ⟨j, hj, swapF_r A _ _⟩
    · by_cases h2 : k = j
      · subst h2; exact ⟨i, hi, swapF_l A _ _⟩
      · exact ⟨k, hk, swapF_o A h1 h2⟩
def Inj {α β : Type} (f : α → β) (n : Nat) (A : Nat → α) : Prop := ∀ i j, i < n → j < n → f (A i) = f (A j) → i = j
def sw (i j k : Nat) : Nat := if k = i then j else if k = j then i else k
theorem swapF_eq {α : Type} (A : Nat → α) (i j k : Nat) : swapF A i j k = A (sw i j k) := by
  unfold swapF sw
  split
  · rfl
  · split <;> rfl
theorem sw_lt {i j k n : Nat} (hi : i < n) (hj : j < n) (hk : k < n) : sw i j k < n := by
  unfold sw
  split
  · exact hj
  · split
    · exact hi
    · exact hk
theorem sw_sw (i j k : Nat) : sw i j (sw i j k) = k := by
  unfold sw
  by_cases h1 : k = i
  · by_cases h2 : j = i
    · simp [h1, h2]
    · simp [h1, h2]
  · by_cases h2 : k = j
    · subst h2; simp [h1]
    · simp [h1, h2]
theorem Inj.swap {α β : Type} {f : α → β} {n i j : Nat} {A : Nat → α} (h : Inj f n A) (hi : i < n) (hj : j < n) : Inj f n (swapF A i j) := by
  intro a b ha hb e
  rw [swapF_eq, swapF_eq] at e
  have := h _ _ (sw_lt hi hj ha) (sw_lt hi hj hb) e
  rw [← sw_sw i j a, this, sw_sw]

section
variable {α : Type} {lt : α → α → Bool} {n : Nat} {A : Nat → α}

def IsHeap (lt : α → α → Bool) (n : Nat) (A : Nat → α) : Prop := ∀ i, 0 < i → i < n → lt (A i) (A (par i)) = false
/-- All is in order but for one that may be ahead of the one above it. -/
def UpInv (lt : α → α → Bool) (n : Nat) (A : Nat → α) (j : Nat) : Prop :=
  j < n ∧ (∀ i, 0 < i → i < n → i ≠ j → lt (A i) (A (par i)) = false) ∧ ∀ c, 0 < c → c < n → par c = j → 0 < j → lt (A c) (A (par j)) = false
/-- All is in order but for one that may be behind those beneath it (and, where it began, ahead of the one above). -/
def DownInv (lt : α → α → Bool) (n : Nat) (A : Nat → α) (i0 i : Nat) : Prop :=
  i < n ∧ i0 ≤ i ∧ (∀ c, 0 < c → c < n → par c ≠ i → (c = i0 ∧ i = i0) ∨ lt (A c) (A (par c)) = false) ∧ ∀ c, 0 < c → c < n → par c = i → 0 < i → lt (A c) (A (par i)) = false

theorem Ord.le_trans (O : Ord lt) {a b c : α} (h1 : lt b a = false) (h2 : lt c b = false) : lt c a = false := by
  cases h : lt c a with
  | false => rfl
  | true =>
    rcases O.neg c b a h with h' | h'
    · rw [h'] at h2; cases h2
    · rw [h'] at h1; cases h1
theorem Ord.asymm (O : Ord lt) {a b : α} (h : lt a b = true) : lt b a = false := by
  cases h' : lt b a with
  | false => rfl
  | true => have := O.trans a b a h h'; rw [O.irr] at this; cases this

/-- The first place has the first of all. -/
theorem IsHeap.min (O : Ord lt) (h : IsHeap lt n A) : ∀ i, i < n → lt (A i) (A 0) = false := by
  intro i
  induction i using Nat.strongRecOn with
  | _ i ih =>
    intro hi
    rcases Nat.eq_zero_or_pos i with rfl | hp
    · exact O.irr _
    · have hl := par_lt hp
      exact O.le_trans (ih (par i) hl (by omega)) (h i hp hi)

theorem UpInv.done (h : UpInv lt n A 0) : IsHeap lt n A := fun i hp hi => h.2.1 i hp hi (by omega)
theorem UpInv.stop {j : Nat} (h : UpInv lt n A j) (hl : lt (A j) (A (par j)) = false) : IsHeap lt n A := fun i hp hi => by
  by_cases e : i = j
  · subst e; exact hl
  · exact h.2.1 i hp hi e
theorem UpInv.step (O : Ord lt) {j : Nat} (h : UpInv lt n A j) (hj : 0 < j) (hl : lt (A j) (A (par j)) = true) : UpInv lt n (swapF A (par j) j) (par j) := by
  obtain ⟨h1, h2, h3⟩ := h
  have hpj := par_lt hj
  refine ⟨by omega, fun i hp hi hne => ?_, fun c hp hc hpc h0 => ?_⟩
  · by_cases e : i = j
    · subst e
      rw [swapF_r, swapF_l]
      exact O.asymm hl
    · rw [swapF_o A hne e]
      by_cases e2 : par i = j
      · rw [e2, swapF_r]
        exact h3 i hp hi e2 hj
      · by_cases e3 : par i = par j
        · rw [e3, swapF_l]
          refine O.le_trans (b := A (par j)) (O.asymm hl) ?_
          have := h2 i hp hi e
          rw [e3] at this
          exact this
        · rw [swapF_o A e3 e2]
          exact h2 i hp hi e
  · -- a child of the one above: it is beneath what was there
    have hpp : lt (A (par j)) (A (par (par j))) = false := h2 (par j) h0 (by omega) (by omega)
    have hq := par_lt h0
    rw [swapF_o A (i := par j) (j := j) (k := par (par j)) (by omega) (by omega)]
    by_cases e : c = j
    · subst e
      rw [swapF_r]
      exact hpp
    · have hcp := par_lt hp
      rw [swapF_o A (by omega) e]
      refine O.le_trans hpp ?_
      have := h2 c hp hc e
      rw [hpc] at this
      exact this

theorem DownInv.heap {i0 i : Nat} (h : DownInv lt n A i0 i) (hm : i0 < i) (hl : ∀ c, 0 < c → c < n → par c = i → lt (A c) (A i) = false) : IsHeap lt n A := fun c hp hc => by
  by_cases e : par c = i
  · rw [e]; exact hl c hp hc e
  · rcases h.2.2.1 c hp hc e with ⟨_, h'⟩ | h'
    · omega
    · exact h'
theorem DownInv.stay {i0 : Nat} (h : DownInv lt n A i0 i0) (hl : ∀ c, 0 < c → c < n → par c = i0 → lt (A c) (A i0) = false) : UpInv lt n A i0 := by
  refine ⟨h.1, fun c hp hc hne => ?_, h.2.2.2⟩
  by_cases e : par c = i0
  · rw [e]; exact hl c hp hc e
  · rcases h.2.2.1 c hp hc e with ⟨h', _⟩ | h'
    · exact absurd h' hne
    · exact h'
theorem DownInv.step (O : Ord lt) {i0 i j : Nat} (h : DownInv lt n A i0 i) (hj : 0 < j) (hjn : j < n) (hp : par j = i) (hl : lt (A j) (A i) = true) (hb : ∀ c, 0 < c → c < n → par c = i → lt (A c) (A j) = false) : DownInv lt n (swapF A i j) i0 j := by
  obtain ⟨h1, h2, h3, h4⟩ := h
  have hij : i < j := by have := par_lt hj; omega
  refine ⟨hjn, by omega, fun c hc hcn hne => ?_, fun c hc hcn hpc _ => ?_⟩
  · have hpl := par_lt hc
    by_cases e : c = j
    · subst e
      rw [swapF_r, hp, swapF_l]
      exact .inr (O.asymm hl)
    · by_cases e2 : par c = i
      · rw [e2, swapF_l, swapF_o A (by omega) e]
        exact .inr (hb c hc hcn e2)
      · by_cases e3 : c = i
        · subst e3
          rw [swapF_l, swapF_o A (by omega) (by omega)]
          exact .inr (h4 j hj hjn hp (by omega))
        · rw [swapF_o A e3 e, swapF_o A e2 (by omega)]
          rcases h3 c hc hcn e2 with ⟨h', h''⟩ | h'
          · omega
          · exact .inr h'
  · have hpl := par_lt hc
    rw [hp, swapF_l, swapF_o A (by omega) (by omega)]
    rcases h3 c hc hcn (by omega) with ⟨h', h''⟩ | h'
    · omega
    · rw [hpc] at h'; exact h'

/-- A new one behind all. -/
theorem IsHeap.push (h : IsHeap lt n A) (x : α) : UpInv lt (n + 1) (fun k => if k = n then x else A k) n := by
  refine ⟨by omega, fun i hp hi hne => ?_, fun c hp hc hpc _ => ?_⟩
  · have := par_lt hp
    simp only [hne, if_false, show ¬ par i = n by omega]
    exact h i hp (by omega)
  · have := par_lt hp
    omega
/-- One is turned. -/
theorem IsHeap.turn (O : Ord lt) (h : IsHeap lt n A) {i : Nat} (hi : i < n) (x : α) : DownInv lt n (fun k => if k = i then x else A k) i i := by
  refine ⟨hi, Nat.le_refl _, fun c hc hcn hne => ?_, fun c hc hcn hpc h0 => ?_⟩
  · by_cases e : c = i
    · exact .inl ⟨e, rfl⟩
    · simp only [e, hne, if_false]
      exact .inr (h c hc hcn)
  · have h1 := par_lt hc
    have h2 := par_lt h0
    simp only [show ¬ c = i by omega, show ¬ par i = i by omega, if_false]
    have e1 := h c hc hcn
    rw [hpc] at e1
    exact O.le_trans (h i h0 hi) e1
/-- One is lost: the last comes in its place. -/
theorem IsHeap.lose (O : Ord lt) (h : IsHeap lt (n + 1) A) {i : Nat} (hi : i < n) : DownInv lt n (swapF A i n) i i := by
  have h' : IsHeap lt n A := fun c hc hcn => h c hc (by omega)
  have := h'.turn O hi (A n)
  refine ⟨hi, Nat.le_refl _, fun c hc hcn hne => ?_, fun c hc hcn hpc h0 => ?_⟩
  · have e1 := par_lt hc
    rcases this.2.2.1 c hc hcn hne with e | e
    · exact .inl e
    · by_cases ec : c = i
      · exact .inl ⟨ec, rfl⟩
      · rw [swapF_o A ec (by omega), swapF_o A hne (by omega)]
        exact .inr (h' c hc hcn)
  · have e1 := par_lt hc
    have e2 := par_lt h0
    have := this.2.2.2 c hc hcn hpc h0
    rw [swapF_o A (by omega) (by omega), swapF_o A (by omega) (by omega)]
    simpa [show ¬ c = i by omega, show ¬ par i = i by omega] using this
theorem IsHeap.pop (h : IsHeap lt (n + 1) A) : IsHeap lt n A := fun c hc hcn => h c hc (by omega)
end

/-- What is due: when, of which kind, the transaction's number and node. -/
structure Ent where
  at_ : Int
  kind : Int
  num : Int
  node : Int
def lessE (a b : Ent) : Bool := decide (a.at_ < b.at_ ∨ a.at_ = b.at_ ∧ (a.kind < b.kind ∨ a.kind = b.kind ∧ (a.num < b.num ∨ a.num = b.num ∧ a.node < b.node)))
theorem lessE_ord : Ord lessE := by
  refine ⟨fun a => ?_, fun a b c h1 h2 => ?_, fun a b c h => ?_⟩
  · unfold lessE; simp
  · unfold lessE at *; simp only [decide_eq_true_eq] at *; omega
  · unfold lessE at *; simp only [decide_eq_true_eq] at *; omega
theorem lessE_total {a b : Ent} (h1 : lessE a b = false) (h2 : lessE b a = false) : a = b := by
  unfold lessE at h1 h2
  simp only [decide_eq_false_iff_not] at h1 h2
  obtain ⟨a1, a2, a3, a4⟩ := a
  obtain ⟨b1, b2, b3, b4⟩ := b
  simp only [Ent.mk.injEq] at *
  omega
end Go.Proofs.Ytgoejoiomjmfaaa

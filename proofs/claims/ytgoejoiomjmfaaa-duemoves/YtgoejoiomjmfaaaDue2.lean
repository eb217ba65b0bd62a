/- The line: rows of pointers to items, in memory. Own lemmas, no statement. -/
import Derived.Test.YtgoejoiomjmfaaaDue1
import Derived.Test.YtgoejoiomjmfaaaSeg
namespace Go.Proofs.Ytgoejoiomjmfaaa
open Go.ChangeShapes Go.WideShapes Go.ChangeAt Go.RowKit

/-- An item: its block, its entry. -/
structure It where
  blk : Nat
  e : Ent
def iptr (b : Nat) : Value := .pointer (some ⟨b, 0, none⟩)
def icells (e : Ent) (p : Nat) : Array Value := #[.int .i64 e.at_, .int .i64 e.kind, .int .u64 e.num, .int .i64 e.node, .int .i64 (p : Int)]

/-- The line lies in block b, n of its cap cells are in use; item i is at place i. -/
structure Line (w : World) (b : Nat) (n cap : Nat) (A : Nat → It) : Prop where
  row : ∃ cs, Blk w b cs 56 ∧ cs.size = cap ∧ ∀ i, i < n → cs[i]? = some (iptr (A i).blk)
  le : n ≤ cap
  max : cap ≤ maxLen
  item : ∀ i, i < n → Blk w (A i).blk (icells (A i).e i) 59
  inj : Inj It.blk n A

/-- Blocks that the line reaches. -/
def LineB (b n : Nat) (A : Nat → It) (k : Nat) : Prop := k = b ∨ ∃ i, i < n ∧ k = (A i).blk

section
variable {w w' : World} {b n cap : Nat} {A : Nat → It}
theorem Line.cell (h : Line w b n cap A) {i : Nat} (hi : i < n) : w.cell? ⟨b, i, none⟩ = some (iptr (A i).blk) := by
  obtain ⟨cs, h1, _, h3⟩ := h.row
  rw [h1.cell]
  exact h3 i hi
theorem Line.chg {S : Nat → Prop} (h : Line w b n cap A) (k : Chg S w w') (hb : ¬ S b) (hi : ∀ i, i < n → ¬ S (A i).blk) : Line w' b n cap A := by
  obtain ⟨cs, h1, h2⟩ := h.row
  exact ⟨⟨cs, h1.chg k hb, h2⟩, h.le, h.max, fun i hn => (h.item i hn).chg k (hi i hn), h.inj⟩
theorem Line.below (h : Line w b n cap A) (k : Below w.heap.size w w') : Line w' b n cap A := by
  refine h.chg (S := fun k => w.heap.size ≤ k) (Chg.of_below k fun i _ h => h) ?_ ?_
  · obtain ⟨cs, h1, _⟩ := h.row
    have := h1.lt
    show ¬ _ ≤ _
    omega
  · intro i hi
    have := (h.item i hi).lt
    show ¬ _ ≤ _
    omega
theorem Line.drew (h : Line w b n cap A) : Line w.drew b n cap A := ⟨h.row, h.le, h.max, h.item, h.inj⟩
theorem Line.rowNe (h : Line w b n cap A) {i : Nat} (hi : i < n) : (A i).blk ≠ b := by
  obtain ⟨cs, h1, _⟩ := h.row
  exact (h.item i hi).ne h1 (by decide)

/-- Two change places, in memory. -/
theorem Line.swap (h : Line w b n cap A) {i j : Nat} (hi : i < n) (hj : j < n) :
    Line ((((w.setCell ⟨b, i, none⟩ (iptr (A j).blk)).setCell ⟨b, j, none⟩ (iptr (A i).blk)).setCell ⟨(A j).blk, 4, none⟩ (.int .i64 (i : Int))).setCell ⟨(A i).blk, 4, none⟩ (.int .i64 (j : Int))) b n cap (swapF A i j) := by
  obtain ⟨cs, h1, h2, h3⟩ := h.row
  have hc := h.le
  have ni := h.rowNe hi
  have nj := h.rowNe hj
  refine ⟨⟨(cs.setIfInBounds i (iptr (A j).blk)).setIfInBounds j (iptr (A i).blk), (((h1.set i _).set j _).setOther _ _ nj.symm).setOther _ _ ni.symm, by simpa using h2, ?_⟩, h.le, h.max, ?_, h.inj.swap hi hj⟩
  · intro k hk
    by_cases e2 : k = j
    · subst e2
      rw [swapF_r, Array.getElem?_setIfInBounds_self_of_lt (by simp; omega)]
    · rw [Array.getElem?_setIfInBounds_ne (by omega)]
      by_cases e1 : k = i
      · subst e1
        rw [swapF_l, Array.getElem?_setIfInBounds_self_of_lt (by omega)]
      · rw [Array.getElem?_setIfInBounds_ne (by omega), swapF_o A e1 e2]
        exact h3 k hk
  · intro k hk
    have far : ∀ l, l < n → l ≠ i → l ≠ j → Blk ((((w.setCell ⟨b, i, none⟩ (iptr (A j).blk)).setCell ⟨b, j, none⟩ (iptr (A i).blk)).setCell ⟨(A j).blk, 4, none⟩ (.int .i64 (i : Int))).setCell ⟨(A i).blk, 4, none⟩ (.int .i64 (j : Int))) (A l).blk (icells (A l).e l) 59 := fun l hl e1 e2 =>
      ((((h.item l hl).setOther _ _ (h.rowNe hl)).setOther _ _ (h.rowNe hl)).setOther _ _ (fun e => e2 (h.inj l j hl hj e))).setOther _ _ (fun e => e1 (h.inj l i hl hi e))
    have base : ∀ l, l < n → Blk ((w.setCell ⟨b, i, none⟩ (iptr (A j).blk)).setCell ⟨b, j, none⟩ (iptr (A i).blk)) (A l).blk (icells (A l).e l) 59 := fun l hl => ((h.item l hl).setOther _ _ (h.rowNe hl)).setOther _ _ (h.rowNe hl)
    by_cases e2 : k = j
    · subst e2
      rw [swapF_r]
      by_cases e3 : i = k
      · subst e3
        have := ((base i hi).set 4 (.int .i64 (i : Int))).set 4 (.int .i64 (i : Int))
        simpa [icells] using this
      · have := ((base i hi).setOther (b' := (A k).blk) 4 (.int .i64 (i : Int)) (fun e => e3 (h.inj i k hi hj e))).set 4 (.int .i64 (k : Int))
        simpa [icells] using this
    · by_cases e1 : k = i
      · subst e1
        rw [swapF_l]
        have := ((base j hj).set 4 (.int .i64 (k : Int))).setOther (b' := (A k).blk) 4 (.int .i64 (j : Int)) (fun e => e2 (h.inj j k hj hi e).symm)
        simpa [icells] using this
      · rw [swapF_o A e1 e2]
        exact far k hk e1 e2
end
end Go.Proofs.Ytgoejoiomjmfaaa

/- lock: wants in rows, plainly; who is where; slices.IndexFunc and ContainsFunc. Own lemmas, no statement. -/
import Derived.Test.YtkgecljoodofeaaCell
import Derived.Test.YtkgecljoodofeaaOps
import Derived.Test.YtkgecljoodofeaaLast
import Derived.Test.YtkgecljoodofeaaElder
import Derived.Deep.Cut
import Derived.Deep.CutBlock
import Derived.BigQuiet
set_option linter.unusedSimpArgs false
set_option linter.unusedVariables false
namespace Go.Proofs.Ytkgecljoodofeaa
open Go.ChangeShapes Go.WideShapes Go.ChangeAt Go.RowKit

/-- A transaction. -/
structure Td where
  num : Int
  node : Int
/-- A lock that one has, or waits for. -/
structure Wn where
  num : Int
  node : Int
  mode : Int
def Wn.t (x : Wn) : Td := ⟨x.num, x.node⟩
def Td.v (t : Td) : Value := .agg #[.int .u64 t.num, .int .i64 t.node]
def Wn.v (x : Wn) : Value := .agg #[.int .u64 x.num, .int .i64 x.node, .int .i64 x.mode]
def Wn.cs (x : Wn) : List Value := [.int .u64 x.num, .int .i64 x.node, .int .i64 x.mode]
theorem Wn.cs_len (x : Wn) : x.cs.length = 3 := rfl
theorem Td.ext' {a b : Td} (h1 : a.num = b.num) (h2 : a.node = b.node) : a = b := by cases a; cases b; simp_all
def eqT (a b : Td) : Bool := a.num == b.num && a.node == b.node
theorem eqT_iff {a b : Td} : eqT a b = true ↔ a = b := by
  unfold eqT
  rw [Bool.and_eq_true, beq_iff_eq, beq_iff_eq]
  exact ⟨fun h => Td.ext' h.1 h.2, fun h => by subst h; exact ⟨rfl, rfl⟩⟩
theorem eqT_self (a : Td) : eqT a a = true := eqT_iff.2 rfl
theorem eqT_ne {a b : Td} (h : a ≠ b) : eqT a b = false := by
  cases hb : eqT a b with
  | false => rfl
  | true => exact absurd (eqT_iff.1 hb) h
def eldT (a b : Td) : Bool := elderB a.num a.node b.num b.node
theorem eldT_iff {a b : Td} : eldT a b = true ↔ a.num < b.num ∨ a.num = b.num ∧ a.node < b.node := by unfold eldT elderB; exact decide_eq_true_iff
theorem eldT_no {a b : Td} : eldT a b = false ↔ ¬ (a.num < b.num ∨ a.num = b.num ∧ a.node < b.node) := by unfold eldT elderB; exact decide_eq_false_iff_not
theorem eldT_trans {a b c : Td} (h : eldT a b = true) (k : eldT b c = true) : eldT a c = true := by rw [eldT_iff] at *; omega
theorem eldT_irr (a : Td) : eldT a a = false := by rw [eldT_no]; omega
theorem eldT_three {a b : Td} (h : eldT a b = false) : a = b ∨ eldT b a = true := by
  rw [eldT_no] at h
  by_cases hn : a.num = b.num
  · by_cases hm : a.node = b.node
    · exact .inl (Td.ext' hn hm)
    · exact .inr (eldT_iff.2 (by omega))
  · exact .inr (eldT_iff.2 (by omega))
/-- Wants in rising age. -/
def Srt (ls : List Wn) : Prop := ls.Pairwise fun a b => eldT a.t b.t = true
/-- How many stand ahead of a transaction. -/
def posT (t : Td) : List Wn → Nat
  | [] => 0
  | x :: r => if eldT x.t t then posT t r + 1 else 0
def hasT (t : Td) (ls : List Wn) : Bool := match ls[posT t ls]? with
  | some x => eqT x.t t
  | none => false
def modeT (t : Td) (ls : List Wn) : Int := match ls[posT t ls]? with
  | some x => if eqT x.t t then x.mode else 0
  | none => 0
theorem posT_le (t : Td) : ∀ ls : List Wn, posT t ls ≤ ls.length
  | [] => Nat.le_refl _
  | x :: r => by
    unfold posT
    have := posT_le t r
    split <;> simp <;> omega
theorem posT_below (t : Td) : ∀ (ls : List Wn) (i : Nat) (h : i < ls.length), i < posT t ls → eldT ls[i].t t = true
  | x :: r, i, h, hi => by
    unfold posT at hi
    split at hi
    · rename_i hx
      cases i with
      | zero => exact hx
      | succ i => exact posT_below t r i (by simpa using h) (by omega)
    · omega
theorem posT_at (t : Td) : ∀ (ls : List Wn) (h : posT t ls < ls.length), eldT ls[posT t ls].t t = false
  | x :: r, h => by
    by_cases hx : eldT x.t t = true
    · have e : posT t (x :: r) = posT t r + 1 := by simp [posT, hx]
      have hr : posT t r < r.length := by rw [e] at h; simpa using h
      have := posT_at t r hr
      simp only [e, List.getElem_cons_succ]
      exact this
    · have e : posT t (x :: r) = 0 := by simp [posT, hx]
      simp only [e, List.getElem_cons_zero]
      simpa using hx
theorem Srt.get {ls : List Wn} (h : Srt ls) {i j : Nat} (hij : i < j) (hj : j < ls.length) : eldT ls[i].t ls[j].t = true := List.pairwise_iff_getElem.1 h i j (by omega) hj hij
theorem posT_from {t : Td} {ls : List Wn} (h : Srt ls) {i : Nat} (hi : posT t ls ≤ i) (hl : i < ls.length) : eldT ls[i].t t = false := by
  rcases Nat.lt_or_eq_of_le hi with hlt | heq
  · cases he : eldT ls[i].t t with
    | false => rfl
    | true =>
      have h1 := posT_at t ls (by omega)
      rw [eldT_trans (h.get hlt hl) he] at h1
      cases h1
  · have h1 := posT_at t ls (by omega)
    simp only [heq] at h1
    exact h1
theorem posT_is {t : Td} {ls : List Wn} {r : Nat} (hr : r ≤ ls.length) (h1 : ∀ j (h : j < ls.length), j < r → eldT ls[j].t t = true) (h2 : ∀ h : r < ls.length, eldT ls[r].t t = false) : r = posT t ls := by
  rcases Nat.lt_trichotomy r (posT t ls) with h | h | h
  · have hl : r < ls.length := Nat.lt_of_lt_of_le h (posT_le t ls)
    have := posT_below t ls r hl h
    rw [h2 hl] at this
    cases this
  · exact h
  · have hl : posT t ls < ls.length := by omega
    have := posT_at t ls hl
    rw [h1 _ hl h] at this
    cases this

/-- A row of wants that can be read. -/
def RowAt (w : World) (ao : Option Addr) (ls : List Wn) : Prop := (ao = none → ls.length = 0) ∧ ∀ ad, ao = some ad → ∀ i (h : i < ls.length), w.cell? (ad.add (i * 3)) = some (.int .u64 ls[i].num) ∧ w.cell? ⟨(ad.add (i * 3)).block, (ad.add (i * 3)).off + 1, none⟩ = some (.int .i64 ls[i].node) ∧ w.cell? ⟨(ad.add (i * 3)).block, (ad.add (i * 3)).off + 2, none⟩ = some (.int .i64 ls[i].mode)
def RowW (w : World) (v : Value) (ls : List Wn) : Prop := ∃ ao c, v = .slice ao ls.length c ∧ ls.length ≤ c ∧ c ≤ maxLen ∧ (ao = none → c = 0) ∧ RowAt w ao ls
theorem RowAt.below {w w' : World} {ao : Option Addr} {ls : List Wn} (h : RowAt w ao ls) (hb : Ext w w') : RowAt w' ao ls :=
  ⟨h.1, fun ad e i hi => by
    obtain ⟨a, b, c⟩ := h.2 ad e i hi
    exact ⟨(Below.cell hb (cell_lt a)).trans a, (Below.cell hb (cell_lt b)).trans b, (Below.cell hb (cell_lt c)).trans c⟩⟩
theorem RowW.below {w w' : World} {v : Value} {ls : List Wn} (h : RowW w v ls) (hb : Ext w w') : RowW w' v ls := by
  obtain ⟨ao, c, e, h1, h2, hz, h3⟩ := h
  exact ⟨ao, c, e, h1, h2, hz, h3.below hb⟩
theorem RowAt.ad {w : World} {ao : Option Addr} {ls : List Wn} (h : RowAt w ao ls) {i : Nat} (hi : i < ls.length) : ∃ ad, ao = some ad := by
  cases ao with
  | none => have := h.1 rfl; omega
  | some ad => exact ⟨ad, rfl⟩
theorem RowAt.kept {w w' : World} {ao : Option Addr} {ls : List Wn} (h : RowAt w ao ls) (hb : ∀ ad, ao = some ad → w'.heap[ad.block]? = w.heap[ad.block]?) : RowAt w' ao ls :=
  ⟨h.1, fun ad e i hi => by
    obtain ⟨a, b, c⟩ := h.2 ad e i hi
    have hh := hb ad e
    have hk : ∀ k, (ad.add k).block = ad.block := fun k => by unfold Addr.add; split <;> rfl
    refine ⟨(World.cell?_of_block ?_).trans a, (World.cell?_of_block ?_).trans b, (World.cell?_of_block ?_).trans c⟩ <;> (first | (rw [hk]; exact hh) | (show w'.heap[(ad.add (i * 3)).block]? = w.heap[(ad.add (i * 3)).block]?; rw [hk]; exact hh))⟩

theorem ext_two {w : World} (a b : Obj) : Ext w ((w.alloc a).alloc b) := ((Below.refl _ _).alloc (Nat.le_refl _) _).alloc (by simp) _
theorem ext_one {w : World} (a : Obj) : Ext w (w.alloc a) := (Below.refl _ _).alloc (Nat.le_refl _) _

/-- Where the first one stands of which something holds. -/
def IdxP (p : Wn → Bool) (ls : List Wn) (e : Ending) : Prop := (∃ i : Nat, ∃ h : i < ls.length, e = .returned (.int .i64 (i : Int)) ∧ p ls[i] = true ∧ ∀ j (hj : j < ls.length), j < i → p ls[j] = false) ∨ (e = .returned (.int .i64 (-1)) ∧ ∀ x ∈ ls, p x = false)
end Go.Proofs.Ytkgecljoodofeaa

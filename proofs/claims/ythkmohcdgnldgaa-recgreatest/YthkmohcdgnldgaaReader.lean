/- What the Go texts of a Reader's calls come to. Own lemmas, no statement. -/
import Derived.Test.YthkmohcdgnldgaaFirst
namespace Go.Proofs.Ythkmohcdgnldgaa
open Go.ChangeShapes Go.WideShapes Go.ChangeAt Go.RowKit

theorem row_set2 {w : World} {g : Nat} {v0 v1 u0 u1 : Value} {T : TypeId} (h : w.heap[g]? = some (.cells #[v0, v1] T (0, 0))) :
    ((w.setCell ⟨g, 0, none⟩ u0).setCell ⟨g, 1, none⟩ u1).heap[g]? = some (.cells #[u0, u1] T (0, 0)) ∧ w.grownBy ((w.setCell ⟨g, 0, none⟩ u0).setCell ⟨g, 1, none⟩ u1) (some g) := by
  have h1 := heap_setCell_same w g 0 _ T u0 h
  have h2 := heap_setCell_same _ g 1 _ T u1 h1
  exact ⟨h2, ⟨rfl, rfl, rfl, by simp [World.setCell], fun k _ hk => by
    have hne : k ≠ g := fun e => hk (by rw [e])
    rw [Below.heap_setCell _ _ _ _ hne, Below.heap_setCell _ _ _ _ hne]⟩⟩

theorem row_set0 {w : World} {g : Nat} {v0 v1 u0 : Value} {T : TypeId} (h : w.heap[g]? = some (.cells #[v0, v1] T (0, 0))) :
    (w.setCell ⟨g, 0, none⟩ u0).heap[g]? = some (.cells #[u0, v1] T (0, 0)) ∧ w.grownBy (w.setCell ⟨g, 0, none⟩ u0) (some g) := by
  have h1 := heap_setCell_same w g 0 _ T u0 h
  exact ⟨h1, ⟨rfl, rfl, rfl, by simp [World.setCell], fun k _ hk => by
    have hne : k ≠ g := fun e => hk (by rw [e])
    rw [Below.heap_setCell _ _ _ _ hne]⟩⟩

/-- The next number of a Reader, what is left, and its error. -/
def rnum (l : List UInt8) (err most : Nat) : Nat × List UInt8 × Nat :=
  if err ≠ 0 then (0, l, err)
  else if (firstL l).2.2 ≠ 0 then (0, [], (firstL l).2.2)
  else if most < (firstL l).1 then (0, [], 3)
  else ((firstL l).1, l.drop (firstL l).2.1, 0)

theorem fstF_facts (l : List UInt8) : ∀ n i, n < 2 ^ (7 * i) → i ≤ 9 → (fstF n i l).2.2 ≤ 6 ∧ ((fstF n i l).2.2 = 0 → (fstF n i l).1 < 18446744073709551616 ∧ i + 1 ≤ (fstF n i l).2.1 ∧ (fstF n i l).2.1 ≤ i + l.length ∧ (fstF n i l).2.1 ≤ 10) := by
  induction l with
  | nil => intro n i _ _; simp [fstF]
  | cons c t ih =>
    intro n i hn hi
    have hc : c.toNat < 256 := c.toNat_lt
    unfold fstF
    split
    · simp
    · rename_i h9
      split
      · rename_i h128
        have hi' : i ≤ 8 := by omega
        have hb : n + (c.toNat - 128) * 2 ^ (7 * i) < 2 ^ (7 * (i + 1)) := by
          have : (c.toNat - 128) * 2 ^ (7 * i) ≤ 127 * 2 ^ (7 * i) := Nat.mul_le_mul (by omega) (Nat.le_refl _)
          rw [show 7 * (i + 1) = 7 * i + 7 by omega, Nat.pow_add]
          omega
        obtain ⟨e1, e2⟩ := ih _ (i + 1) hb (by omega)
        refine ⟨e1, fun h => ?_⟩
        obtain ⟨a1, a2, a3, a4⟩ := e2 h
        refine ⟨a1, by omega, ?_, a4⟩
        simp only [List.length_cons]
        omega
      · split
        · simp
        · refine ⟨Nat.zero_le _, fun _ => ⟨?_, Nat.le_refl _, by simp, by show i + 1 ≤ 10; omega⟩⟩
          show n + c.toNat * 2 ^ (7 * i) < _
          rcases (show i ≤ 8 ∨ i = 9 by omega) with h | h
          · have hp : 2 ^ (7 * i) ≤ 2 ^ 56 := Nat.pow_le_pow_right (by omega) (by omega)
            have : c.toNat * 2 ^ (7 * i) ≤ 127 * 2 ^ 56 := Nat.mul_le_mul (by omega) hp
            omega
          · subst h
            have : c.toNat ≤ 1 := by omega
            have : c.toNat * 2 ^ (7 * 9) ≤ 1 * 2 ^ (7 * 9) := Nat.mul_le_mul this (Nat.le_refl _)
            omega

theorem firstL_facts (l : List UInt8) : (firstL l).2.2 ≤ 6 ∧ ((firstL l).2.2 = 0 → (firstL l).1 < 18446744073709551616 ∧ 1 ≤ (firstL l).2.1 ∧ (firstL l).2.1 ≤ l.length ∧ (firstL l).2.1 ≤ 10) := by
  have := fstF_facts l 0 0 (by decide) (by omega)
  simp only [Nat.zero_add] at this
  exact this

theorem add_add (a : Addr) (i j : Nat) : (a.add i).add j = a.add (i + j) := by
  unfold Addr.add
  by_cases hi : i = 0 <;> by_cases hj : j = 0 <;> simp [hi, hj, Nat.add_assoc]
theorem add_block (a : Addr) (i : Nat) : (a.add i).block = a.block := by unfold Addr.add; split <;> rfl

theorem rnum_facts (l : List UInt8) (err most : Nat) : (rnum l err most).1 < 18446744073709551616 ∧ ((rnum l err most).2.2 = 0 → (rnum l err most).1 ≤ most) ∧ (err ≤ 100 → (rnum l err most).2.2 ≤ 100) ∧ (rnum l err most).2.1.length ≤ l.length := by
  have hF := firstL_facts l
  unfold rnum
  split
  · refine ⟨by simp, fun _ => Nat.zero_le _, fun h => h, Nat.le_refl _⟩
  · split
    · refine ⟨by simp, fun _ => Nat.zero_le _, fun _ => by show (firstL l).2.2 ≤ 100; omega, Nat.zero_le _⟩
    · rename_i h
      split
      · refine ⟨by simp, fun _ => Nat.zero_le _, fun _ => by simp, Nat.zero_le _⟩
      · have := hF.2 (by omega)
        refine ⟨this.1, fun _ => by show (firstL l).1 ≤ most; omega, fun _ => Nat.zero_le _, ?_⟩
        show (l.drop _).length ≤ _
        simp

theorem grownBy_trans {a b c : World} {r : Option Nat} (h : a.grownBy b r) (k : b.grownBy c r) : a.grownBy c r :=
  ⟨k.os.trans h.os, k.tape.trans h.tape, k.output.trans h.output, Nat.le_trans h.size k.size, fun i hi hr => (k.block i (Nat.lt_of_lt_of_le hi h.size) hr).trans (h.block i hi hr)⟩

/-- The next text of a Reader. -/
def rtext (l : List UInt8) (err M : Nat) : List UInt8 × List UInt8 × Nat :=
  if (rnum l err M).2.2 ≠ 0 then ([], (rnum l err M).2.1, (rnum l err M).2.2)
  else if (rnum l err M).2.1.length < (rnum l err M).1 then ([], [], 6)
  else ((rnum l err M).2.1.take (rnum l err M).1, (rnum l err M).2.1.drop (rnum l err M).1, 0)

theorem src_take {w : World} {ao : Option Addr} {c : Nat} {l : List UInt8} (n : Nat) (h : SrcAt w ao c l) (h4 : l.length ≤ c) (h5 : c ≤ maxLen) (hn : n ≤ l.length) : Src w (.slice ao n c) (l.take n) := by
  refine ⟨ao, c, by rw [List.length_take, Nat.min_eq_left hn], by rw [List.length_take]; omega, h5, fun hn' => ?_, fun ad had j u hu => ?_⟩
  · obtain ⟨rfl, rfl⟩ := h.1 hn'
    exact ⟨by simp, rfl⟩
  · refine h.2 ad had j u ?_
    rw [← hu]
    simp only [bv, List.map_take, List.getElem?_take]
    rw [if_pos]
    have := (List.getElem?_eq_some_iff.1 hu).1
    simp [bv] at this
    omega

end Go.Proofs.Ythkmohcdgnldgaa

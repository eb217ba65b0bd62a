/- What the Go texts of a Reader's calls come to. Own lemmas, no statement. -/
import Derived.Test.YtefmeeffkjendaaFirst
namespace Go.Proofs.Ytefmeeffkjendaa
open Go.ChangeShapes Go.WideShapes Go.ChangeAt Go.RowKit

/-- A Reader at block g, its bytes in block b: l are left, err its error. -/
def Rdr (w : World) (g b : Nat) (l : List UInt8) (err : Nat) : Prop :=
  b ≠ g ∧ b < w.heap.size ∧ ∃ ao c, w.heap[g]? = some (.cells #[.slice ao l.length c, .int .i64 (err : Int)] 54 (0, 0)) ∧ l.length ≤ c ∧ c ≤ maxLen ∧ SrcAt w ao c l ∧ ∀ ad, ao = some ad → ad.block = b ∧ ad.spot = none

theorem Rdr.lt {w : World} {g b : Nat} {l : List UInt8} {err : Nat} (h : Rdr w g b l err) : g < w.heap.size := by
  obtain ⟨_, _, ao, c, h3, _⟩ := h
  exact (Array.getElem?_eq_some_iff.1 h3).1

/-- Other blocks may turn. -/
theorem Rdr.kept {w w' : World} {g b : Nat} {l : List UInt8} {err : Nat} (h : Rdr w g b l err) (hsz : w.heap.size ≤ w'.heap.size) (hg : w'.heap[g]? = w.heap[g]?) (hb : w'.heap[b]? = w.heap[b]?) : Rdr w' g b l err := by
  obtain ⟨h1, h2, ao, c, h3, h4, h5, h6, h7⟩ := h
  refine ⟨h1, by omega, ao, c, by rw [hg]; exact h3, h4, h5, ⟨h6.1, fun ad had j u hu => ?_⟩, h7⟩
  rw [World.cell?_of_block (w := w) (by
    have : (ad.add j).block = b := by rw [← (h7 ad had).1]; unfold Addr.add; split <;> rfl
    rw [this]; exact hb)]
  exact h6.2 ad had j u hu

theorem Rdr.below {w w' : World} {g b : Nat} {l : List UInt8} {err : Nat} (h : Rdr w g b l err) (hb : Below w.heap.size w w') : Rdr w' g b l err :=
  h.kept hb.size (hb.block g h.lt) (hb.block b h.2.1)

theorem Rdr.grown {w w' : World} {g b k : Nat} {l : List UInt8} {err : Nat} (h : Rdr w g b l err) (hg : w.grownBy w' (some k)) (h1 : g ≠ k) (h2 : b ≠ k) : Rdr w' g b l err :=
  h.kept hg.size (hg.block g h.lt (by simp; omega)) (hg.block b h.2.1 (by simp; omega))

/-- The next number of a Reader, what is left, and its error. -/
def rnum (l : List UInt8) (err most : Nat) : Nat × List UInt8 × Nat :=
  if err ≠ 0 then (0, l, err)
  else if (firstL l).2.2 ≠ 0 then (0, [], (firstL l).2.2)
  else if most < (firstL l).1 then (0, [], 3)
  else ((firstL l).1, l.drop (firstL l).2.1, 0)

theorem fstF_facts (l : List UInt8) : ∀ n i, n < 2 ^ (7 * i) → i ≤ 9 → (fstF n i l).2.2 ≤ 6 ∧ ((fstF n i l).2.2 = 0 → (fstF n i l).1 < 18446744073709551616 ∧ i + 1 ≤ (fstF n i l).2.1 ∧ (fstF n i l).2.1 ≤ i + l.length ∧ (fstF n i l).2.1 ≤ 10) := by
  induction l with
  | nil => intro n i _ _; simp [fstF]
  | cons c t ih =>
    intro n i hn hi
    have hc : c.toNat < 256 := c.toNat_lt
    unfold fstF
    split
    · simp
    · rename_i h9
      split
      · rename_i h128
        have hi' : i ≤ 8 := by omega
        have hb : n + (c.toNat - 128) * 2 ^ (7 * i) < 2 ^ (7 * (i + 1)) := by
          have : (c.toNat - 128) * 2 ^ (7 * i) ≤ 127 * 2 ^ (7 * i) := Nat.mul_le_mul (by omega) (Nat.le_refl _)
          rw [show 7 * (i + 1) = 7 * i + 7 by omega, Nat.pow_add]
          omega
        obtain ⟨e1, e2⟩ := ih _ (i + 1) hb (by omega)
        refine ⟨e1, fun h => ?_⟩
        obtain ⟨a1, a2, a3, a4⟩ := e2 h
        refine ⟨a1, by omega, ?_, a4⟩
        simp only [List.length_cons]
        omega
      · split
        · simp
        · refine ⟨Nat.zero_le _, fun _ => ⟨?_, Nat.le_refl _, by simp, by show i + 1 ≤ 10; omega⟩⟩
          show n + c.toNat * 2 ^ (7 * i) < _
          rcases (show i ≤ 8 ∨ i = 9 by omega) with h | h
          · have hp : 2 ^ (7 * i) ≤ 2 ^ 56 := Nat.pow_le_pow_right (by omega) (by omega)
            have : c.toNat * 2 ^ (7 * i) ≤ 127 * 2 ^ 56 := Nat.mul_le_mul (by omega) hp
            omega
          · subst h
            have : c.toNat ≤ 1 := by omega
            have : c.toNat * 2 ^ (7 * 9) ≤ 1 * 2 ^ (7 * 9) := Nat.mul_le_mul this (Nat.le_refl _)
            omega

theorem firstL_facts (l : List UInt8) : (firstL l).2.2 ≤ 6 ∧ ((firstL l).2.2 = 0 → (firstL l).1 < 18446744073709551616 ∧ 1 ≤ (firstL l).2.1 ∧ (firstL l).2.1 ≤ l.length ∧ (firstL l).2.1 ≤ 10) := by
  have := fstF_facts l 0 0 (by decide) (by omega)
  simp only [Nat.zero_add] at this
  exact this

theorem rnum_facts (l : List UInt8) (err most : Nat) : (rnum l err most).1 < 18446744073709551616 ∧ ((rnum l err most).2.2 = 0 → (rnum l err most).1 ≤ most) ∧ (err ≤ 100 → (rnum l err most).2.2 ≤ 100) ∧ (rnum l err most).2.1.length ≤ l.length := by
  have hF := firstL_facts l
  unfold rnum
  split
  · refine ⟨by simp, fun _ => Nat.zero_le _, fun h => h, Nat.le_refl _⟩
  · split
    · refine ⟨by simp, fun _ => Nat.zero_le _, fun _ => by show (firstL l).2.2 ≤ 100; omega, Nat.zero_le _⟩
    · rename_i h
      split
      · refine ⟨by simp, fun _ => Nat.zero_le _, fun _ => by simp, Nat.zero_le _⟩
      · have := hF.2 (by omega)
        refine ⟨this.1, fun _ => by show (firstL l).1 ≤ most; omega, fun _ => Nat.zero_le _, ?_⟩
        show (l.drop _).length ≤ _
        simp

/-- The next text of a Reader. -/
def rtext (l : List UInt8) (err M : Nat) : List UInt8 × List UInt8 × Nat :=
  if (rnum l err M).2.2 ≠ 0 then ([], (rnum l err M).2.1, (rnum l err M).2.2)
  else if (rnum l err M).2.1.length < (rnum l err M).1 then ([], [], 6)
  else ((rnum l err M).2.1.take (rnum l err M).1, (rnum l err M).2.1.drop (rnum l err M).1, 0)

end Go.Proofs.Ytefmeeffkjendaa

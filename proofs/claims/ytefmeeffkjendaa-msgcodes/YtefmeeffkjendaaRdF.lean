/- How bytes are read, plainly: readers as little parsers; what is laid is read again, and what was read was laid. Own lemmas, no statement. -/
import Derived.Test.YtefmeeffkjendaaReader2
import Derived.Test.YtefmeeffkjendaaDecode
set_option linter.unusedSimpArgs false
set_option linter.unusedVariables false
namespace Go.Proofs.Ytefmeeffkjendaa

def txt (s : ByteArray) : List UInt8 := enc s.size ++ s.data.toList
theorem rnum_of (A most : Nat) (hA : A < 18446744073709551616) (hm : A ≤ most) (r : List UInt8) : rnum (enc A ++ r) 0 most = (A, r, 0) := by
  have h := first_enc A hA r
  unfold rnum
  rw [if_neg (by omega), h]
  simp only
  rw [if_neg (by simp), if_neg (by omega)]
  simp
theorem rtext_of (s : ByteArray) (M : Nat) (hs : s.size ≤ M) (hb : s.size < 18446744073709551616) (r : List UInt8) : rtext (txt s ++ r) 0 M = (s.data.toList, r, 0) := by
  have hl : s.data.toList.length = s.size := rfl
  unfold rtext txt
  rw [List.append_assoc, rnum_of s.size M hb hs]
  simp only
  rw [if_neg (by simp), if_neg (by rw [List.length_append, hl]; omega)]
  rw [List.take_append_of_le_length (by omega), List.drop_append_of_le_length (by omega), List.take_of_length_le (by omega), List.drop_of_length_le (by omega)]
  rfl
theorem fst_inv (l : List UInt8) : ∀ (acc i N S : Nat), i ≤ 9 → fstF acc i l = (N, S, 0) → ∃ m, N = acc + m * 2 ^ (7 * i) ∧ i ≤ S ∧ l = encF (10 - i) m ++ l.drop (S - i) ∧ (0 < i → 0 < m) := by
  induction l with
  | nil => intro acc i N S _ h; simp [fstF] at h
  | cons c t ih =>
    intro acc i N S hi h
    have hc : c.toNat < 256 := c.toNat_lt
    have hcc : UInt8.ofNat c.toNat = c := UInt8.ofNat_toNat
    unfold fstF at h
    split at h
    · simp at h
    · rename_i h9
      split at h
      · rename_i h128
        have hi8 : i ≤ 8 := by omega
        obtain ⟨m', e1, e2, e3, e4⟩ := ih _ (i + 1) N S (by omega) h
        have hm' := e4 (by omega)
        refine ⟨(c.toNat - 128) + 128 * m', ?_, by omega, ?_, fun _ => by omega⟩
        · rw [e1, show 7 * (i + 1) = 7 * i + 7 by omega, Nat.pow_add, Nat.add_mul]
          have : m' * (2 ^ (7 * i) * 2 ^ 7) = 128 * m' * 2 ^ (7 * i) := by
            rw [Nat.mul_comm (2 ^ (7 * i)) (2 ^ 7), ← Nat.mul_assoc, Nat.mul_comm m' (2 ^ 7)]
          omega
        · have hb : UInt8.ofNat (((c.toNat - 128) + 128 * m') % 128 + 128) = c := by
            rw [show ((c.toNat - 128) + 128 * m') % 128 + 128 = c.toNat by omega]; exact hcc
          have hd : ((c.toNat - 128) + 128 * m') / 128 = m' := by omega
          rw [show 10 - i = (10 - (i + 1)) + 1 by omega, encF_great (by omega), hb, hd, show S - i = (S - (i + 1)) + 1 by omega, List.drop_succ_cons, List.cons_append, ← e3]
      · rename_i h128
        split at h
        · simp at h
        · rename_i h0
          simp only [Prod.mk.injEq, and_true] at h
          obtain ⟨rfl, rfl⟩ := h
          refine ⟨c.toNat, rfl, by omega, ?_, fun h => by omega⟩
          rw [show 10 - i = (9 - i) + 1 by omega, encF_small (by omega), hcc, show i + 1 - i = 1 by omega]
          rfl
theorem rnum_inv {l : List UInt8} {e m : Nat} (h : (rnum l e m).2.2 = 0) : e = 0 ∧ l = enc (rnum l e m).1 ++ (rnum l e m).2.1 := by
  unfold rnum at h ⊢
  split at h
  · exact absurd h (by assumption)
  · rename_i h0
    split at h
    · exact absurd h (by assumption)
    · rename_i h1
      split at h
      · simp at h
      · rename_i h2
        have h0' : e = 0 := by omega
        rw [if_neg h0, if_neg h1, if_neg h2]
        refine ⟨h0', ?_⟩
        have hz : (firstL l).2.2 = 0 := by omega
        obtain ⟨N, hN⟩ : ∃ N, (firstL l).1 = N := ⟨_, rfl⟩
        obtain ⟨S, hS⟩ : ∃ S, (firstL l).2.1 = S := ⟨_, rfl⟩
        have hf : fstF 0 0 l = (N, S, 0) := by
          show firstL l = (N, S, 0)
          rw [← hN, ← hS]
          exact Prod.ext rfl (Prod.ext rfl hz)
        obtain ⟨k, e1, _, e3, _⟩ := fst_inv l 0 0 N S (by omega) hf
        have : N = k := by rw [e1]; simp
        rw [hN, hS]
        show l = enc N ++ l.drop S
        rw [this]
        simpa [enc] using e3
theorem rtext_inv {l : List UInt8} {e M : Nat} (h : (rtext l e M).2.2 = 0) : e = 0 ∧ l = txt ⟨(rtext l e M).1.toArray⟩ ++ (rtext l e M).2.1 := by
  unfold rtext at h ⊢
  split at h
  · exact absurd h (by assumption)
  · rename_i h0
    split at h
    · simp at h
    · rename_i h1
      rw [if_neg h0, if_neg h1]
      obtain ⟨a, b⟩ := rnum_inv (l := l) (e := e) (m := M) (by omega)
      refine ⟨a, ?_⟩
      have hs : (⟨((rnum l e M).2.1.take (rnum l e M).1).toArray⟩ : ByteArray).size = (rnum l e M).1 := by
        show ((rnum l e M).2.1.take (rnum l e M).1).toArray.size = _
        rw [List.size_toArray, List.length_take]; omega
      unfold txt
      rw [hs, List.append_assoc]
      simp only [List.take_append_drop]
      exact b
theorem rnum_le (l : List UInt8) (err m : Nat) : (rnum l err m).1 ≤ m := by
  have hf := rnum_facts l err m
  by_cases h0 : (rnum l err m).2.2 = 0
  · exact hf.2.1 h0
  · unfold rnum at h0 ⊢
    split
    · simp
    · split
      · simp
      · split
        · simp
        · rename_i h1 h2 h3
          rw [if_neg h1, if_neg h2, if_neg h3] at h0
          exact absurd rfl h0

/-! How bytes are read. -/
abbrev RF (α : Type) := List UInt8 → Nat → α × List UInt8 × Nat
def rb {α β : Type} (f : RF α) (g : α → RF β) : RF β := fun l e => g (f l e).1 (f l e).2.1 (f l e).2.2
def rp {α : Type} (x : α) : RF α := fun l e => (x, l, e)
def rint (M : Nat) : RF Int := fun l e => (((rnum l e M).1 : Int), (rnum l e M).2)
def rflag : RF Bool := fun l e => (((rnum l e 1).1 : Int) == 1, (rnum l e 1).2)
def rstr (M : Nat) : RF ByteArray := fun l e => (⟨(rtext l e M).1.toArray⟩, (rtext l e M).2)
def rtidI : RF (Int × Int) := fun l e => ((((rtid l e).1.1 : Int), ((rtid l e).1.2 : Int)), (rtid l e).2)
def flagN (b : Bool) : Nat := if b then 1 else 0
def tidB (x y : Int) : List UInt8 := enc x.toNat ++ enc (uns y)
def textB (s : ByteArray) : List UInt8 := enc s.size ++ s.data.toList
def intB (n : Int) : List UInt8 := enc n.toNat

/-! What is laid is read again. -/
def Rb {α : Type} (f : RF α) (B : List UInt8) (x : α) : Prop := ∀ r, f (B ++ r) 0 = (x, r, 0)
theorem Rb.bind {α β : Type} {f : RF α} {g : α → RF β} {B C : List UInt8} {x : α} {y : β} (h1 : Rb f B x) (h2 : Rb (g x) C y) : Rb (rb f g) (B ++ C) y := fun r => by
  unfold rb
  rw [List.append_assoc, h1]
  exact h2 r
theorem Rb.pure {α : Type} (x : α) : Rb (rp x) [] x := fun r => rfl
theorem Rb.last {α β : Type} {f : RF α} {g : α → RF β} {B : List UInt8} {x : α} {y : β} (h1 : Rb f B x) (h2 : g x = rp y) : Rb (rb f g) B y := fun r => by
  unfold rb
  rw [h1, h2]
  rfl
theorem Rb.int {n : Int} {M : Nat} (h0 : 0 ≤ n) (h1 : n ≤ M) (hM : M < 18446744073709551616) : Rb (rint M) (intB n) n := fun r => by
  unfold rint intB
  rw [rnum_of n.toNat M (by omega) (by omega)]
  simp only
  rw [Int.toNat_of_nonneg h0]
theorem Rb.flag (b : Bool) : Rb rflag (enc (flagN b)) b := fun r => by
  unfold rflag
  rw [rnum_of (flagN b) 1 (by cases b <;> decide) (by cases b <;> decide)]
  cases b <;> rfl
theorem Rb.str {s : ByteArray} {M : Nat} (h : s.size ≤ M) (hM : M < 18446744073709551616) : Rb (rstr M) (textB s) s := fun r => by
  unfold rstr
  have : textB s = txt s := rfl
  rw [this, rtext_of s M h (by omega)]
theorem uns_small {y : Int} (h0 : 0 ≤ y) (h1 : y < 64) : uns y = y.toNat := by
  unfold uns
  omega
theorem Rb.tid {x y : Int} (h0 : 0 ≤ x) (h1 : x ≤ 1099511627776) (h2 : 0 ≤ y) (h3 : y < 64) : Rb rtidI (tidB x y) (x, y) := fun r => by
  unfold rtidI tidB
  rw [uns_small h2 h3, List.append_assoc]
  have e : rtid (enc x.toNat ++ (enc y.toNat ++ r)) 0 = ((x.toNat, y.toNat), r, 0) := by
    unfold rtid
    rw [rnum_of x.toNat 1099511627776 (by omega) (by omega)]
    simp only
    rw [rnum_of y.toNat 63 (by omega) (by omega), if_neg (by simp)]
  rw [e]
  simp only
  rw [Int.toNat_of_nonneg h0, Int.toNat_of_nonneg h2]
theorem Rb.ite {α : Type} {c : Prop} [Decidable c] {f g : RF α} {B C : List UInt8} {x : α} (h1 : c → Rb f B x) (h2 : ¬ c → Rb g C x) : Rb (if c then f else g) (if c then B else C) x := by
  by_cases h : c
  · rw [if_pos h, if_pos h]; exact h1 h
  · rw [if_neg h, if_neg h]; exact h2 h

/-! What was read was laid. -/
def Iw {α : Type} (f : RF α) (P : α → List UInt8 → Prop) : Prop := ∀ l e, (f l e).2.2 = 0 → e = 0 ∧ ∃ B, P (f l e).1 B ∧ l = B ++ (f l e).2.1
theorem Iw.bind {α β : Type} {f : RF α} {g : α → RF β} {P : α → List UInt8 → Prop} {Q : α → β → List UInt8 → Prop} (h1 : Iw f P) (h2 : ∀ x, Iw (g x) (Q x)) : Iw (rb f g) (fun y B => ∃ x B1 B2, P x B1 ∧ Q x y B2 ∧ B = B1 ++ B2) := fun l e h => by
  unfold rb at h ⊢
  obtain ⟨e1, B2, q2, l2⟩ := h2 _ _ _ h
  obtain ⟨e0, B1, q1, l1⟩ := h1 _ _ e1
  refine ⟨e0, B1 ++ B2, ⟨_, B1, B2, q1, q2, rfl⟩, ?_⟩
  rw [List.append_assoc, ← l2, ← l1]
theorem Iw.pure {α : Type} (x : α) : Iw (rp x) (fun y B => y = x ∧ B = []) := fun l e h => ⟨h, [], ⟨rfl, rfl⟩, rfl⟩
theorem Iw.int (M : Nat) : Iw (rint M) (fun y B => (0 ≤ y ∧ y ≤ M) ∧ B = intB y) := fun l e h => by
  obtain ⟨a, b⟩ := rnum_inv (l := l) (e := e) (m := M) h
  have := rnum_le l e M
  exact ⟨a, _, ⟨by simp only [rint]; omega, rfl⟩, by simpa [rint, intB] using b⟩
theorem Iw.flag : Iw rflag (fun y B => B = enc (flagN y)) := fun l e h => by
  obtain ⟨a, b⟩ := rnum_inv (l := l) (e := e) (m := 1) h
  have := rnum_le l e 1
  refine ⟨a, _, rfl, ?_⟩
  unfold rflag
  rcases (show (rnum l e 1).1 = 0 ∨ (rnum l e 1).1 = 1 by omega) with k | k
  · rw [k] at b ⊢; exact b
  · rw [k] at b ⊢; exact b
theorem Iw.str (M : Nat) : Iw (rstr M) (fun y B => B = textB y) := fun l e h => by
  obtain ⟨a, b⟩ := rtext_inv (l := l) (e := e) (M := M) h
  exact ⟨a, _, rfl, b⟩
theorem Iw.tid : Iw rtidI (fun y B => B = tidB y.1 y.2) := fun l e h => by
  unfold rtidI at h ⊢
  simp only at h ⊢
  unfold rtid at h ⊢
  by_cases hz : (rnum (rnum l e 1099511627776).2.1 (rnum l e 1099511627776).2.2 63).2.2 ≠ 0
  · rw [if_pos hz] at h
    exact absurd h hz
  · rw [if_neg hz]
    have hz : (rnum (rnum l e 1099511627776).2.1 (rnum l e 1099511627776).2.2 63).2.2 = 0 := by omega
    obtain ⟨a, b⟩ := rnum_inv hz
    obtain ⟨c, d⟩ := rnum_inv a
    have := rnum_le (rnum l e 1099511627776).2.1 (rnum l e 1099511627776).2.2 63
    refine ⟨c, _, rfl, ?_⟩
    simp only
    unfold tidB
    rw [uns_small (by omega) (by omega), List.append_assoc]
    simp only [Int.toNat_natCast]
    rw [← b]
    exact d
theorem Iw.ite {α : Type} {c : Prop} [Decidable c] {f g : RF α} {P Q : α → List UInt8 → Prop} (h1 : Iw f P) (h2 : Iw g Q) : Iw (if c then f else g) (fun y B => if c then P y B else Q y B) := by
  by_cases h : c
  · simp only [if_pos h]; exact h1
  · simp only [if_neg h]; exact h2
end Go.Proofs.Ytefmeeffkjendaa

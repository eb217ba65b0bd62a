/- Pieces of maps of keys. Own lemmas, no statement. -/
import Derived.Test.YtopnblhedankcaaPairs
import Derived.Laws.StructEq
namespace Go.Proofs.Ytopnblhedankcaa
open Go.ChangeShapes Go.WideShapes Go.ChangeAt Go.RowKit

theorem addr_add_add (a : Addr) (i j : Nat) : (a.add i).add j = a.add (i + j) := by
  unfold Addr.add
  by_cases hi : i = 0 <;> by_cases hj : j = 0 <;> simp [hi, hj, Nat.add_assoc]

theorem pv_take (m : List KV) (n : Nat) : pv (m.take n) = (pv m).take (n * 2) := by
  induction m generalizing n with
  | nil => simp [pv]
  | cons p t ih =>
    cases n with
    | zero => simp [pv]
    | succ n =>
      have := ih n
      rw [show (n + 1) * 2 = n * 2 + 2 by omega]
      simp [pv] at this ⊢
      exact this
theorem pv_drop (m : List KV) (n : Nat) : pv (m.drop n) = (pv m).drop (n * 2) := by
  induction m generalizing n with
  | nil => simp [pv]
  | cons p t ih =>
    cases n with
    | zero => simp [pv]
    | succ n =>
      have := ih n
      rw [show (n + 1) * 2 = n * 2 + 2 by omega]
      simp [pv] at this ⊢
      exact this

theorem pairs_take {w : World} {ao : Option Addr} {c : Nat} {m : List KV} (n : Nat) (h : PairsAt w ao c m) (h4 : m.length ≤ c) (h5 : c ≤ maxLen) (hn : n ≤ m.length) : Pairs w (.slice ao n c) (m.take n) := by
  refine ⟨ao, c, by rw [List.length_take, Nat.min_eq_left hn], by rw [List.length_take]; omega, h5, fun hn' => ?_, fun ad had j u hu => ?_⟩
  · obtain ⟨rfl, rfl⟩ := h.1 hn'
    exact ⟨by simp, rfl⟩
  · refine h.2 ad had j u ?_
    rw [pv_take, List.getElem?_take] at hu
    split at hu
    · exact hu
    · cases hu

/-- The value of a cut from place S on, as the model has it. -/
def cutV (ao : Option Addr) (n c S : Nat) : Value := if c = S then .slice ao (n - S) 0 else .slice (Option.map (fun x => x.add (S * 2)) ao) (n - S) (c - S)
theorem pairs_cut {w : World} {ao : Option Addr} {c : Nat} {m : List KV} (S : Nat) (h : PairsAt w ao c m) (h4 : m.length ≤ c) (h5 : c ≤ maxLen) (hS : S ≤ m.length) : Pairs w (cutV ao m.length c S) (m.drop S) := by
  unfold cutV
  split
  · rename_i hc
    have hd : m.drop S = [] := List.drop_of_length_le (by omega)
    rw [hd]
    exact ⟨ao, 0, by rw [show m.length - S = 0 by omega]; rfl, Nat.le_refl _, Nat.zero_le _, fun _ => ⟨rfl, rfl⟩, fun ad _ j u hu => by simp [pv] at hu⟩
  · refine ⟨_, c - S, by rw [List.length_drop], by rw [List.length_drop]; omega, by omega, fun hn => ?_, fun ad had j u hu => ?_⟩
    · have hn' : ao = none := by cases ao <;> simp_all
      obtain ⟨rfl, rfl⟩ := h.1 hn'
      exact ⟨by simp, by simp⟩
    · cases ao with
      | none => simp at had
      | some a =>
        simp at had
        subst had
        rw [addr_add_add]
        refine h.2 a rfl (S * 2 + j) u ?_
        rw [← hu, pv_drop]
        simp

theorem cell_next {w : World} {a : Addr} {i : Nat} {v : Value} (h : w.cell? (a.add (i + 1)) = some v) : w.cell? ⟨(a.add i).block, (a.add i).off + 1, none⟩ = some v := by
  unfold Addr.add at h ⊢
  rw [if_neg (by omega)] at h
  split
  · rename_i h0; subst h0; simpa using h
  · simpa [Nat.add_assoc] using h

def atB (k : ByteArray) (m : List KV) : Nat := if hasK k m then idx k m + 1 else idx k m
theorem hasK_lt (k : ByteArray) (m : List KV) (h : hasK k m = true) : idx k m < m.length := by
  rw [hasK_at] at h
  cases hg : m[idx k m]? with
  | none => rw [hg] at h; cases h
  | some p => exact (List.getElem?_eq_some_iff.1 hg).1
theorem atB_le (k : ByteArray) (m : List KV) : atB k m ≤ m.length := by
  unfold atB
  split
  · rename_i h; have := hasK_lt k m h; omega
  · exact idx_le k m

end Go.Proofs.Ytopnblhedankcaa

/- Slices of bytes, more: their form, nil, as texts. Own lemmas, no statement. -/
import Derived.Test.YtcemecclpofhbaaBytes
namespace Go.Proofs.Ytcemecclpofhbaa
open Go.ChangeShapes Go.WideShapes Go.ChangeAt Go.RowKit

theorem Own.form {w : World} {B : Nat} {v : Value} {l : List UInt8} (h : Own w B v l) (hl : l ≠ []) :
    ∃ g cap, v = .slice (some ⟨g, 0, none⟩) l.length cap ∧ B ≤ g ∧ g < w.heap.size ∧ l.length ≤ cap ∧ cap ≤ maxLen := by
  rcases h.2 with ⟨_, hn⟩ | ⟨g, cap, cur, rfl, hb, hg, hnc, hcm, _⟩
  · exact absurd (List.eq_nil_of_length_eq_zero hn) hl
  · exact ⟨g, cap, rfl, hb, (Array.getElem?_eq_some_iff.1 hg).1, hnc, hcm⟩

theorem Src.at {w : World} {ao : Option Addr} {n c : Nat} {l : List UInt8} (h : Src w (.slice ao n c) l) : n = l.length ∧ l.length ≤ c ∧ c ≤ maxLen ∧ SrcAt w ao c l := by
  obtain ⟨ao', c', he, h1, h2, h3⟩ := h
  simp only [Value.slice.injEq] at he
  obtain ⟨rfl, rfl, rfl⟩ := he
  exact ⟨rfl, h1, h2, h3⟩

theorem Src.nil (w : World) : Src w (.slice none 0 0) [] := ⟨none, 0, rfl, Nat.le_refl _, Nat.zero_le _, fun _ => ⟨rfl, rfl⟩, fun ad h => by cases h⟩

/-- 'string(b)'. -/
theorem Src.str {w : World} {v : Value} {l : List UInt8} (h : Src w v l) : (convert 28 9 v).run Try.prog w = .ok (.string ⟨l.toArray⟩) w := by
  obtain ⟨ao, c, rfl, h1, h2, h3, h4⟩ := h
  cases ao with
  | none =>
    obtain ⟨rfl, rfl⟩ := h3 rfl
    exact run_convert_bytes_nil w 28 5 Try.underlying28 Try.underlying5 _ _ 9 Try.underlying9
  | some ad =>
    exact run_convert_bytes_back w 28 9 5 ad c l Try.underlying28 Try.underlying5 Try.underlying9 (fun j hj => h4 ad rfl j _ (by simp [bv, hj]))

end Go.Proofs.Ytcemecclpofhbaa

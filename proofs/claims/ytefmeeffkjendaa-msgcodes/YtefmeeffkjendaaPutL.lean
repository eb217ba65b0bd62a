/- Rows of cells, stored one by one. Own lemmas, no statement. -/
import Derived.Test.YtefmeeffkjendaaBlk
namespace Go.Proofs.Ytefmeeffkjendaa
open Go.ChangeShapes Go.WideShapes Go.ChangeAt Go.RowKit

/-- A row of cells, stored from the i-th on. -/
def putL (w : World) (b : Nat) : Nat → List Value → World
  | _, [] => w
  | i, u :: t => putL (w.setCell ⟨b, i, none⟩ u) b (i + 1) t
theorem putL_below {B b : Nat} (hb : B ≤ b) {a : World} : ∀ (us : List Value) (i : Nat) (w : World), Below B a w → Below B a (putL w b i us)
  | [], _, _, h => h
  | u :: t, i, w, h => by
    unfold putL
    exact putL_below hb t (i + 1) _ (h.setCell hb _)
theorem putL_blk {b : Nat} {T : TypeId} : ∀ (us : List Value) (pre rest : List Value) (w : World), Blk w b (pre ++ rest).toArray T → rest.length = us.length → Blk (putL w b pre.length us) b (pre ++ us).toArray T
  | [], pre, rest, w, h, hl => by
    have : rest = [] := List.eq_nil_of_length_eq_zero hl
    subst this
    exact h
  | u :: t, pre, rest, w, h, hl => by
    match rest, hl with
    | r :: rt, hl =>
      have h1 := h.set pre.length u
      have e : (pre ++ r :: rt).toArray.setIfInBounds pre.length u = ((pre ++ [u]) ++ rt).toArray := by simp
      rw [e] at h1
      have := putL_blk t (pre ++ [u]) rt _ h1 (by simpa using hl)
      unfold putL
      simpa using this
theorem putL_all {w : World} {b : Nat} {T : TypeId} {c : Array Value} (us : List Value) (h : Blk w b c T) (hl : c.size = us.length) : Blk (putL w b 0 us) b us.toArray T := by
  have := putL_blk us [] c.toList w (by simpa using h) (by simpa using hl)
  simpa using this
end Go.Proofs.Ytefmeeffkjendaa

/- DiskRuns: bytes that the law has made. Own lemmas, no statement. -/
import Derived.Test.YtpojpmkflgmgkaaRuns3
namespace Go.Proofs.Ytpojpmkflgmgkaa
open Go.ChangeShapes Go.WideShapes Go.ChangeAt Go.RowKit
theorem own_bytes {w : World} {B bn : Nat} {v : Value} {bl : List UInt8} (h : Own w B v (join [] bl)) (hn : ¬ v = .slice none 0 0) (hl : bl.length = bn) :
    ∃ mb cm, v = .slice (some ⟨mb, 0, none⟩) bn cm ∧ B ≤ mb ∧ ∃ cur, Blk w mb cur 5 ∧ ∀ i, i < bn → ∃ z : Int, cur[i]? = some (.int .u8 z) := by
  have hj : join [] bl = bl := rfl
  rw [hj] at h
  rcases h.2 with ⟨h', _⟩ | ⟨g, cap, cur, rfl, hb, hg, hnc, hcm, hcs, ht⟩
  · exact absurd h' hn
  · refine ⟨g, cap, by rw [hl], hb, cur, hg, fun i hi => ?_⟩
    have hi' : i < bl.length := by omega
    have e : (bv bl)[i]? = some (.int .u8 ((bl[i]).toNat : Int)) := by unfold bv; rw [List.getElem?_map, List.getElem?_eq_getElem hi']; rfl
    rw [← ht, List.getElem?_take, if_pos (by omega)] at e
    exact ⟨_, by rw [← Array.getElem?_toList]; exact e⟩
theorem flip_ints {cur : Array Value} {bn j : Nat} {u : Int} (h : ∀ i, i < bn → ∃ z : Int, cur[i]? = some (.int .u8 z)) (hj : j < cur.size) : ∀ i, i < bn → ∃ z : Int, (cur.setIfInBounds j (.int .u8 u))[i]? = some (.int .u8 z) := by
  intro i hi
  rw [Array.getElem?_setIfInBounds]
  by_cases e : j = i
  · subst e
    rw [if_pos rfl, if_pos hj]
    exact ⟨u, rfl⟩
  · rw [if_neg e]
    exact h i hi
end Go.Proofs.Ytpojpmkflgmgkaa

/- lock: slices.IndexFunc and DeleteFunc of texts, walked; Keys. Own lemmas, no statement. -/
import Derived.Test.YtkgecljoodofeaaLkG1
import Derived.Laws.OwnMore
set_option linter.unusedSimpArgs false
set_option linter.unusedVariables false
namespace Go.Proofs.Ytkgecljoodofeaa
open Go.ChangeShapes Go.WideShapes Go.ChangeAt Go.RowKit

theorem OwnK.kept {w w' : World} {B : Nat} {v : Value} {ks : List ByteArray} (h : OwnK w B v ks) (hb : ∀ g, v.ownBlock = some g → w'.heap[g]? = w.heap[g]?) : OwnK w' B v ks := by
  refine ⟨h.1, ?_⟩
  rcases h.2 with hn | ⟨g, cap, cur, rfl, hbg, hgg, rest⟩
  · exact .inl hn
  · exact .inr ⟨g, cap, cur, rfl, hbg, by rw [hb g rfl]; exact hgg, rest⟩
theorem OwnK.below {w w' : World} {B : Nat} {v : Value} {ks : List ByteArray} (h : OwnK w B v ks) (hb : Ext w w') : OwnK w' B v ks := h.kept fun g hg => hb.block g (World.ownsRow.lt h g hg).2
theorem OwnK.notBlk {w : World} {B g : Nat} {v : Value} {ks : List ByteArray} {c : Array Value} {T : TypeId} (h : OwnK w B v ks) (hb : Blk w g c T) (hT : T ≠ 9) : v.ownBlock ≠ some g := fun e => by
  obtain ⟨ao, c', rfl, _, _, _, h4⟩ := h.form
  cases ao with
  | none => cases e
  | some a =>
    obtain ⟨e1, _, ⟨cur, hc⟩, _⟩ := h4 a rfl
    rw [e1] at e
    cases e
    exact hT (hb.inj hc).2
/-- An own row of texts, written out. -/
theorem OwnK.row {w : World} {B g n c : Nat} {ls : List ByteArray} (h : OwnK w B (.slice (some ⟨g, 0, none⟩) n c) ls) : ls.length = n ∧ n ≤ c ∧ c ≤ maxLen ∧ B ≤ g ∧ ∃ cur, Blk w g cur 9 ∧ cur.size = c ∧ cur.toList.take n = ls.map Value.string := by
  rcases h.2 with ⟨e, _⟩ | ⟨g', c', cur, e, h1, h2, h3, h4, h5, h6⟩
  · cases e
  · simp only [Value.slice.injEq, Option.some.injEq, Addr.mk.injEq, and_true, true_and] at e
    obtain ⟨rfl, rfl, rfl⟩ := e
    exact ⟨rfl, h3, h4, h1, cur, h2, by rw [h5]; omega, by simpa using h6⟩
theorem ownK_of {w : World} {B g n c : Nat} {ls : List ByteArray} {cur : Array Value} (hb : Blk w g cur 9) (hB : B ≤ g) (hl : ls.length = n) (h3 : n ≤ c) (h4 : c ≤ maxLen) (h5 : cur.size = c) (h6 : cur.toList.take n = ls.map Value.string) : OwnK w B (.slice (some ⟨g, 0, none⟩) n c) ls := by
  subst hl
  exact ⟨by simp, .inr ⟨g, c, cur, rfl, hB, hb, h3, h4, by rw [h5]; omega, by simpa using h6⟩⟩
theorem OwnK.put {w : World} {B g n c i : Nat} {ls : List ByteArray} {x : ByteArray} (h : OwnK w B (.slice (some ⟨g, 0, none⟩) n c) ls) (hi : i < ls.length) : OwnK (w.setCell ⟨g, i, none⟩ (.string x)) B (.slice (some ⟨g, 0, none⟩) n c) (ls.set i x) := by
  obtain ⟨h1, h2, h3, h4, cur, h5, h6, h7⟩ := h.row
  refine ownK_of (h5.set i (.string x)) h4 (by rw [List.length_set]; exact h1) h2 h3 (by simpa using h6) ?_
  rw [Array.toList_setIfInBounds, List.take_set, h7, List.map_set]
theorem OwnK.spot {w : World} {B g n c i : Nat} {ls : List ByteArray} (h : OwnK w B (.slice (some ⟨g, 0, none⟩) n c) ls) (hi : i < ls.length) : w.cell? ⟨g, i, none⟩ = some (.string ls[i]) ∧ w.frozen? ⟨g, i, none⟩ = false := by
  obtain ⟨h1, h2, h3, h4, cur, h5, h6, h7⟩ := h.row
  refine ⟨?_, h5.frozen _⟩
  have := World.ownsRow.cells h rfl i (.string ls[i]) (by simp [hi])
  rw [add0] at this
  exact this
end Go.Proofs.Ytkgecljoodofeaa

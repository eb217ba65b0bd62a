/- DueRuns' own list in memory. Own lemmas, no statement. -/
import Derived.Test.YtgoejoiomjmfaaaRunsP
namespace Go.Proofs.Ytgoejoiomjmfaaa
open Go.ChangeShapes Go.WideShapes Go.ChangeAt Go.RowKit

def cE (l : List Ent) : List Value := l.flatMap fun e => (eC e).toList
theorem cE_nil : cE [] = [] := rfl
theorem cE_cons (e : Ent) (l : List Ent) : cE (e :: l) = [.int .i64 e.at_, .int .i64 e.kind, .int .u64 e.num, .int .i64 e.node] ++ cE l := by simp [cE, eC]
theorem cE_length (l : List Ent) : (cE l).length = l.length * 4 := by
  induction l with
  | nil => rfl
  | cons e l ih => rw [cE_cons]; simp [ih]; omega
theorem cE_append (l m : List Ent) : cE (l ++ m) = cE l ++ cE m := by simp [cE]
theorem cE_split {l : List Ent} {i : Nat} {e : Ent} (h : l[i]? = some e) : cE l = cE (l.take i) ++ ([.int .i64 e.at_, .int .i64 e.kind, .int .u64 e.num, .int .i64 e.node] ++ cE (l.drop (i + 1))) := by
  have hi := (List.getElem?_eq_some_iff.1 h)
  obtain ⟨hi, he⟩ := hi
  rw [← cE_cons, ← cE_append, ← he, ← List.drop_eq_getElem_cons hi, List.take_append_drop]
theorem take_len {l : List Ent} {i : Nat} (h : i < l.length) : (cE (l.take i)).length = i * 4 := by rw [cE_length, List.length_take, Nat.min_eq_left (Nat.le_of_lt h)]
theorem cE_get {l : List Ent} {i : Nat} {e : Ent} (h : l[i]? = some e) {c : Nat} (hc : c < 4) : (cE l)[i * 4 + c]? = [Value.int .i64 e.at_, .int .i64 e.kind, .int .u64 e.num, .int .i64 e.node][c]? := by
  have hi := (List.getElem?_eq_some_iff.1 h).1
  rw [cE_split h, List.getElem?_append_right (by rw [take_len hi]; omega), take_len hi, show i * 4 + c - i * 4 = c by omega, List.getElem?_append_left (by simpa using hc)]
theorem cE_take {l : List Ent} {i : Nat} (h : i ≤ l.length) : (cE l).take (i * 4) = cE (l.take i) := by
  have : cE l = cE (l.take i) ++ cE (l.drop i) := by rw [← cE_append, List.take_append_drop]
  rw [this, List.take_left' (by rw [cE_length, List.length_take, Nat.min_eq_left h])]
theorem cE_drop {l : List Ent} {i : Nat} (h : i ≤ l.length) : (cE l).drop (i * 4) = cE (l.drop i) := by
  have : cE l = cE (l.take i) ++ cE (l.drop i) := by rw [← cE_append, List.take_append_drop]
  rw [this, List.drop_left' (by rw [cE_length, List.length_take, Nat.min_eq_left h])]
theorem cE_set {l : List Ent} {i : Nat} {e : Ent} (h : l[i]? = some e) (a : Int) : (cE l).set (i * 4) (.int .i64 a) = cE (l.set i (entOf e.key a)) := by
  have hi := (List.getElem?_eq_some_iff.1 h).1
  have h2 : (l.set i (entOf e.key a))[i]? = some (entOf e.key a) := by rw [List.getElem?_set, if_pos rfl, if_pos hi]
  rw [cE_split h, cE_split h2, List.set_append_right _ _ (by rw [take_len hi]; omega), take_len hi, Nat.sub_self, List.take_set_of_le (Nat.le_refl _), List.drop_set_of_lt (by omega)]
  rfl

/-- The row of the law's own list. -/
structure RowE (w : World) (B : Nat) (x : Addr) (cap : Nat) (l : List Ent) : Prop where
  own : w.ownsRow B 34 4 (.slice (some x) l.length cap) l.length (cE l)
theorem RowE.form {w : World} {B : Nat} {x : Addr} {cap : Nat} {l : List Ent} (h : RowE w B x cap l) : ∃ b cs, x = ⟨b, 0, none⟩ ∧ B ≤ b ∧ Blk w b cs 34 ∧ l.length ≤ cap ∧ cap ≤ maxLen ∧ cs.size = cap * 4 ∧ cs.toList.take (l.length * 4) = cE l := by
  rcases h.own.2 with ⟨h1, _⟩ | ⟨g, c, cur, h1, h2, h3, h4, h5, h6, h7⟩
  · cases h1
  · simp only [Value.slice.injEq, Option.some.injEq] at h1
    obtain ⟨rfl, _, rfl⟩ := h1
    exact ⟨g, cur, rfl, h2, h3, h4, h5, h6, h7⟩
theorem RowE.of {w : World} {B b cap : Nat} {l : List Ent} {cs : Array Value} (h1 : B ≤ b) (h2 : Blk w b cs 34) (h3 : l.length ≤ cap) (h4 : cap ≤ maxLen) (h5 : cs.size = cap * 4) (h6 : cs.toList.take (l.length * 4) = cE l) : RowE w B ⟨b, 0, none⟩ cap l :=
  ⟨cE_length l, .inr ⟨b, cap, cs, rfl, h1, h2, h3, h4, h5, h6⟩⟩
theorem RowE.blk {w : World} {B : Nat} {x : Addr} {cap : Nat} {l : List Ent} (h : RowE w B x cap l) : ∃ cs, Blk w x.block cs 34 := by
  obtain ⟨b, cs, rfl, _, h3, _⟩ := h.form
  exact ⟨cs, h3⟩
theorem RowE.chg {S : Nat → Prop} {w w' : World} {B : Nat} {x : Addr} {cap : Nat} {l : List Ent} (h : RowE w B x cap l) (k : Chg S w w') (hn : ¬ S x.block) : RowE w' B x cap l := by
  obtain ⟨b, cs, rfl, h2, h3, h4, h5, h6, h7⟩ := h.form
  exact RowE.of h2 (h3.chg k hn) h4 h5 h6 h7
theorem RowE.below {w w' : World} {B : Nat} {x : Addr} {cap : Nat} {l : List Ent} (h : RowE w B x cap l) (k : Below w.heap.size w w') : RowE w' B x cap l := h.chg (S := fun _ => False) (chg_of_below k) (fun e => e)
theorem RowE.le {w : World} {B : Nat} {x : Addr} {cap : Nat} {l : List Ent} (h : RowE w B x cap l) : l.length ≤ cap ∧ cap ≤ 9223372036854775807 := by
  obtain ⟨b, cs, rfl, h2, h3, h4, h5, h6, h7⟩ := h.form
  unfold maxLen at h5
  exact ⟨h4, by omega⟩
theorem RowE.low {w : World} {B : Nat} {x : Addr} {cap : Nat} {l : List Ent} (h : RowE w B x cap l) : B ≤ x.block := by
  obtain ⟨b, cs, rfl, h2, _⟩ := h.form
  exact h2
theorem RowE.cells {w : World} {B : Nat} {x : Addr} {cap : Nat} {l : List Ent} (h : RowE w B x cap l) : ∀ j u, (cE l)[j]? = some u → w.cell? (x.add j) = some u := by
  obtain ⟨b, cs, rfl, h2, h3, h4, h5, h6, h7⟩ := h.form
  intro j u hu
  have hj := (List.getElem?_eq_some_iff.1 hu).1
  rw [cE_length] at hj
  rw [Addr.add_mid, Nat.zero_add, h3.cell, ← Array.getElem?_toList]
  rw [← h7, List.getElem?_take, if_pos hj] at hu
  exact hu
theorem RowE.at {w : World} {B : Nat} {x : Addr} {cap : Nat} {l : List Ent} (h : RowE w B x cap l) {i : Nat} {e : Ent} (he : l[i]? = some e) :
    w.cell? (x.add (i * 4)) = some (.int .i64 e.at_) ∧ w.cell? ⟨(x.add (i * 4)).block, (x.add (i * 4)).off + 1, none⟩ = some (.int .i64 e.kind) ∧ w.cell? ⟨(x.add (i * 4)).block, (x.add (i * 4)).off + 2, none⟩ = some (.int .u64 e.num) ∧ w.cell? ⟨(x.add (i * 4)).block, (x.add (i * 4)).off + 3, none⟩ = some (.int .i64 e.node) := by
  refine ⟨h.cells _ _ (by rw [show i * 4 = i * 4 + 0 by omega, cE_get he (by omega)]; rfl), cell_on (by omega) (h.cells _ _ (by rw [cE_get he (by omega)]; rfl)), cell_on (by omega) (h.cells _ _ (by rw [cE_get he (by omega)]; rfl)), cell_on (by omega) (h.cells _ _ (by rw [cE_get he (by omega)]; rfl))⟩
theorem RowE.frozen {w : World} {B : Nat} {x : Addr} {cap : Nat} {l : List Ent} (h : RowE w B x cap l) (i : Nat) : w.frozen? (x.add i) = false := by
  obtain ⟨b, cs, rfl, h2, h3, _⟩ := h.form
  rw [Addr.add_mid]
  exact h3.frozen _
theorem RowE.set {w : World} {B : Nat} {x : Addr} {cap : Nat} {l : List Ent} (h : RowE w B x cap l) {i : Nat} {e : Ent} (he : l[i]? = some e) (a : Int) : RowE (w.setCell (x.add (i * 4)) (.int .i64 a)) B x cap (l.set i (entOf e.key a)) := by
  obtain ⟨b, cs, rfl, h2, h3, h4, h5, h6, h7⟩ := h.form
  rw [Addr.add_mid, Nat.zero_add]
  refine RowE.of h2 (h3.set (i * 4) (.int .i64 a)) (by simpa using h4) h5 (by simpa using h6) ?_
  rw [← cE_set he a, ← h7, Array.toList_setIfInBounds, List.length_set, List.take_set]
theorem RowE.chgSet {w : World} {B : Nat} {x : Addr} {cap : Nat} {l : List Ent} (h : RowE w B x cap l) (i : Nat) (v : Value) : Chg (fun k => k = x.block) w (w.setCell (x.add i) v) := by
  obtain ⟨b, cs, rfl, h2, h3, _⟩ := h.form
  exact (Chg.refl _ _).setCell _ (fun _ => by rw [blk_add]) _
theorem RowE.new (w : World) {B : Nat} (hB : B ≤ w.heap.size) : RowE (w.alloc (.cells #[] 34)) B ⟨w.heap.size, 0, none⟩ 0 [] := RowE.of hB (Blk.new w _ _) (Nat.le_refl _) (Nat.zero_le _) rfl rfl
theorem infoE : (Try.prog.info? 34).map (fun i => (i.zero, i.size, i.bytes)) = some (some (.agg #[.int .i64 0, .int .i64 0, .int .u64 0, .int .i64 0]), 4, 32) := by kernel_rfl
theorem one_cE (l : List Ent) : ∀ u ∈ cE l, u.oneCell' = true := by
  intro u hu
  unfold cE at hu
  rw [List.mem_flatMap] at hu
  obtain ⟨e, _, he⟩ := hu
  simp [eC] at he
  rcases he with rfl | rfl | rfl | rfl <;> rfl

/-- 'append', onto the law's own row, of a row of entries. -/
theorem RowE.append {w : World} {B : Nat} {x y : Addr} {cap c : Nat} {l m : List Ent} (h : RowE w B x cap l) (hm : ∀ j u, (cE m)[j]? = some u → w.cell? (y.add j) = some u) (hB : B ≤ w.heap.size) (hl : l.length + m.length ≤ 1000) (ty : TypeId) :
    ∃ x' cap' w', (Builtin.append_ #[26, 26] ty #[.slice (some x) l.length cap, .slice (some y) m.length c]).run Try.prog w = .ok (.slice (some x') (l ++ m).length cap') w' ∧ RowE w' B x' cap' (l ++ m) ∧ Chg (fun k => k = x.block) w w' ∧ (x'.block = x.block ∨ x'.block = w.heap.size) := by
  obtain ⟨i0, hi, hz0, hz1, hz2⟩ := info_parts infoE
  obtain ⟨v', w', h1, h2, h3, h4, h5⟩ := run_append_own_at (P := Try.prog) w B 26 ty 34 i0 _ 4 32 Try.underlying26 hi hz0 hz1 hz2 rfl (by decide) _ l.length (cE l) h.own y m.length c (cE m) (cE_length m) hm (one_cE m) (by unfold maxLen; omega) (by omega) hB
  rw [← cE_append] at h2
  have hlen : l.length + m.length = (l ++ m).length := by simp
  rw [hlen] at h2
  obtain ⟨x', cap', rfl⟩ : ∃ x' cap', v' = .slice (some x') (l ++ m).length cap' := by
    rcases h2.2 with ⟨e1, e2⟩ | ⟨g, cp, cur, e1, _⟩
    · have := h4.1 e1
      cases this.1
    · exact ⟨_, _, e1⟩
  refine ⟨x', cap', w', h1, ⟨h2⟩, (Chg.refl _ _).grown h3 (fun k e _ => ?_), ?_⟩
  · simp only [Value.ownBlock, Option.some.injEq] at e
    exact e.symm
  · simpa [Value.ownBlock] using h5
end Go.Proofs.Ytgoejoiomjmfaaa

/- lock: rows of grants that grow. Own lemmas, no statement. -/
import Derived.Test.YtkgecljoodofeaaLkF
set_option linter.unusedSimpArgs false
set_option linter.unusedVariables false
namespace Go.Proofs.Ytkgecljoodofeaa
open Go.ChangeShapes Go.WideShapes Go.ChangeAt Go.RowKit

/-- A lock that was waited for, and is given. -/
structure Gr where
  num : Int
  node : Int
  key : ByteArray
  mode : Int
def Gr.cs (x : Gr) : List Value := [.int .u64 x.num, .int .i64 x.node, .string x.key, .int .i64 x.mode]
theorem Gr.cs_len (x : Gr) : x.cs.length = 4 := rfl
def zG : Value := .agg #[.int .u64 0, .int .i64 0, .string ByteArray.empty, .int .i64 0]
theorem infoG : (Try.prog.info? 46).map (fun i => (i.zero, i.size, i.bytes)) = some (some zG, 4, 40) := by kernel_rfl
def flatG (ls : List Gr) : List Value := (ls.map Gr.cs).flatten
theorem flatG_len (ls : List Gr) : (flatG ls).length = ls.length * 4 := by
  unfold flatG
  induction ls with
  | nil => rfl
  | cons x t ih => simp only [List.map_cons, List.flatten_cons, List.length_append, ih, Gr.cs_len, List.length_cons]; omega
theorem flatG_app (a b : List Gr) : flatG (a ++ b) = flatG a ++ flatG b := by unfold flatG; rw [List.map_append, List.flatten_append]
theorem cs_oneG (x : Gr) : ∀ u ∈ x.cs, u.oneCell' = true := by
  intro u hu
  simp only [Gr.cs, List.mem_cons, List.not_mem_nil, or_false] at hu
  rcases hu with rfl | rfl | rfl | rfl <;> rfl
theorem flatG_at : ∀ {ls : List Gr} {i : Nat} (h : i < ls.length), (flatG ls)[i * 4]? = some (.int .u64 ls[i].num) ∧ (flatG ls)[i * 4 + 1]? = some (.int .i64 ls[i].node) ∧ (flatG ls)[i * 4 + 2]? = some (.string ls[i].key) ∧ (flatG ls)[i * 4 + 3]? = some (.int .i64 ls[i].mode)
  | x :: r, 0, h => by simp [flatG, Gr.cs]
  | x :: r, i + 1, h => by
    have ih := flatG_at (ls := r) (i := i) (by simpa using h)
    have e : flatG (x :: r) = x.cs ++ flatG r := by simp [flatG]
    rw [e]
    have s : ∀ k, (x.cs ++ flatG r)[(i + 1) * 4 + k]? = (flatG r)[i * 4 + k]? := fun k => by
      rw [List.getElem?_append_right (by rw [Gr.cs_len]; omega), Gr.cs_len]
      congr 1
      omega
    have s0 := s 0
    simp only [Nat.add_zero] at s0
    rw [s0, s 1, s 2, s 3]
    simpa using ih
/-- An own row of grants. -/
def OwnG (w : World) (B : Nat) (v : Value) (ls : List Gr) : Prop := w.ownsRow B 46 4 v ls.length (flatG ls)
theorem OwnG.nil (w : World) (B : Nat) : OwnG w B (.slice none 0 0) [] := World.ownsRow_nil w B _ 4
theorem OwnG.form {w : World} {B : Nat} {v : Value} {ls : List Gr} (h : OwnG w B v ls) : (v = .slice none 0 0 ∧ ls = []) ∨ ∃ g c, v = .slice (some ⟨g, 0, none⟩) ls.length c ∧ B ≤ g ∧ g < w.heap.size ∧ ls.length ≤ c ∧ c ≤ maxLen ∧ ∃ cur, Blk w g cur 46 ∧ cur.size = c * 4 ∧ cur.toList.take (ls.length * 4) = flatG ls := by
  rcases h.2 with ⟨rfl, h0⟩ | ⟨g, c, cur, rfl, h1, h2, h3, h4, h5, h6⟩
  · exact .inl ⟨rfl, List.eq_nil_of_length_eq_zero h0⟩
  · exact .inr ⟨g, c, rfl, h1, Blk.lt h2, h3, h4, cur, h2, h5, h6⟩
theorem OwnG.kept {w w' : World} {B : Nat} {v : Value} {ls : List Gr} (h : OwnG w B v ls) (hb : ∀ g, v.ownBlock = some g → w'.heap[g]? = w.heap[g]?) : OwnG w' B v ls := by
  refine ⟨h.1, ?_⟩
  rcases h.2 with hn | ⟨g, cap, cur, rfl, hbg, hgg, rest⟩
  · exact .inl hn
  · exact .inr ⟨g, cap, cur, rfl, hbg, by rw [hb g rfl]; exact hgg, rest⟩
theorem OwnG.below {w w' : World} {B : Nat} {v : Value} {ls : List Gr} (h : OwnG w B v ls) (hb : Ext w w') : OwnG w' B v ls := h.kept fun g hg => hb.block g (World.ownsRow.lt h g hg).2
theorem OwnG.len {w : World} {B : Nat} {v : Value} {ls : List Gr} (h : OwnG w B v ls) : ∃ ao c, v = .slice ao ls.length c ∧ ls.length ≤ c ∧ c ≤ maxLen ∧ (ao = none → ls.length = 0) := by
  rcases h.form with ⟨rfl, rfl⟩ | ⟨g, c, rfl, h1, h2, h3, h4, _⟩
  · exact ⟨none, 0, rfl, Nat.le_refl _, Nat.zero_le _, fun _ => rfl⟩
  · exact ⟨_, c, rfl, h3, h4, fun e => by cases e⟩
/-- The i-th grant, cell by cell. -/
theorem OwnG.at_ {w : World} {B : Nat} {g n c : Nat} {ls : List Gr} (h : OwnG w B (.slice (some ⟨g, 0, none⟩) n c) ls) {i : Nat} (hi : i < ls.length) :
    w.cell? ⟨g, i * 4, none⟩ = some (.int .u64 ls[i].num) ∧ w.cell? ⟨g, i * 4 + 1, none⟩ = some (.int .i64 ls[i].node) ∧ w.cell? ⟨g, i * 4 + 2, none⟩ = some (.string ls[i].key) ∧ w.cell? ⟨g, i * 4 + 3, none⟩ = some (.int .i64 ls[i].mode) := by
  rcases h.form with ⟨e, _⟩ | ⟨g', c', e, h1, h2, h3, h4, cur, h5, h6, h7⟩
  · cases e
  · simp only [Value.slice.injEq, Option.some.injEq, Addr.mk.injEq, and_true, true_and] at e
    obtain ⟨rfl, rfl, rfl⟩ := e
    have hc : ∀ j v, (flatG ls)[j]? = some v → w.cell? ⟨g, j, none⟩ = some v := fun j v hj => by
      rw [h5.cell, ← Array.getElem?_toList]
      rw [← h7, List.getElem?_take] at hj
      split at hj
      · exact hj
      · cases hj
    obtain ⟨a, b, d, f⟩ := flatG_at hi
    exact ⟨hc _ _ a, hc _ _ b, hc _ _ d, hc _ _ f⟩
/-- 'append(out, Grant{..})'. -/
theorem run_pushG (W : World) (ty : TypeId) (B : Nat) (v : Value) (ls : List Gr) (x : Gr) (h : Nat) (hown : OwnG W B v ls) (hx : Blk W h x.cs.toArray 46) (hl : ls.length ≤ 1000000000) (hB : B ≤ W.heap.size) :
    ∃ v' W', (Builtin.append_ #[40, 40] ty #[v, .slice (some ⟨h, 0, none⟩) 1 1]).run Try.prog W = .ok v' W' ∧ OwnG W' B v' (ls ++ [x]) ∧ W.grownBy W' v.ownBlock ∧ (v'.ownBlock = v.ownBlock ∨ v'.ownBlock = some W.heap.size) := by
  obtain ⟨i0, hi, hz0, hz1, hz2⟩ := info_parts infoG
  have hcells : ∀ j u, (flatG [x])[j]? = some u → W.cell? ((⟨h, 0, none⟩ : Addr).add j) = some u := fun j u hj => by
    rw [add0, hx.cell]
    have e : flatG [x] = x.cs := by simp [flatG]
    rw [e] at hj
    simpa using hj
  have hone : ∀ u ∈ flatG [x], u.oneCell' = true := fun u hu => cs_oneG x u (by simpa [flatG] using hu)
  obtain ⟨v', w', hr, k1, k2, _, k4⟩ := run_append_own_at (P := Try.prog) W B 40 ty 46 i0 zG 4 40 Try.underlying40 hi hz0 hz1 hz2 rfl (by decide) v ls.length (flatG ls) hown ⟨h, 0, none⟩ 1 1 (flatG [x]) (by rw [flatG_len]; rfl) hcells hone (by unfold maxLen; omega) (by omega) hB
  refine ⟨v', w', hr, ?_, k2, k4⟩
  unfold OwnG
  rw [List.length_append, flatG_app]
  exact k1
end Go.Proofs.Ytkgecljoodofeaa

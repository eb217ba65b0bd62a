/- lock: a table in memory. Own lemmas, no statement. -/
import Derived.Test.YtkgecljoodofeaaLkL
set_option linter.unusedSimpArgs false
set_option linter.unusedVariables false
namespace Go.Proofs.Ytkgecljoodofeaa
open Go.ChangeShapes Go.WideShapes Go.ChangeAt Go.RowKit

/-- A table: its blocks, its lines, its sets. -/
structure Tab where
  g : Nat
  mb : Nat
  ab : Nat
  F : ByteArray → Option LnV
  A : Td → Option (Option Nat)
  K : Td → ByteArray → Option Unit
  N : Nat
def LB (l : LnV) (b : Nat) : Prop := l.hb = some b ∨ l.wb = some b
def OwnL (w : World) (B : Nat) (l : LnV) : Prop := OwnW w B l.hv l.has ∧ OwnW w B l.wv l.waits
/-- It lies so; of the keys of X nothing is said. -/
structure TabAt (B : Nat) (w : World) (T : Tab) (X : ByteArray → Prop) : Prop where
  low : B ≤ T.g ∧ B ≤ T.mb ∧ B ≤ T.ab
  blk : Blk w T.g #[.map (some T.mb), .map (some T.ab)] 65
  lm : GM cLn w T.mb T.N T.F
  am : GM cAs w T.ab T.N T.A
  two : T.mb ≠ T.ab
  rows : ∀ k l, T.F k = some l → ¬ X k → OwnL w B l
  ap : ∀ k l q m b, T.F k = some l → ¬ X k → T.F q = some m → ¬ X q → LB l b → LB m b → k = q
  ap2 : ∀ k l b, T.F k = some l → ¬ X k → l.hb = some b → l.wb ≠ some b
  sets : ∀ t o, T.A t = some o → ∃ b, o = some b ∧ B ≤ b ∧ b ≠ T.mb ∧ b ≠ T.ab ∧ GM cSet w b T.N (T.K t)
  ap3 : ∀ t u b, T.A t = some (some b) → T.A u = some (some b) → t = u
/-- Its blocks. -/
def FT (T : Tab) (X : ByteArray → Prop) (i : Nat) : Prop := i = T.g ∨ i = T.mb ∨ i = T.ab ∨ (∃ k l, T.F k = some l ∧ ¬ X k ∧ LB l i) ∨ ∃ t, T.A t = some (some i)
theorem slV_own {b : Option Nat} {n c : Nat} : (slV b n c).ownBlock = b := by cases b <;> rfl
section
variable {B : Nat} {w w' : World} {T : Tab} {X X' : ByteArray → Prop}
theorem OwnL.lt {l : LnV} (h : OwnL w B l) {b : Nat} (hb : LB l b) : B ≤ b ∧ b < w.heap.size := by
  rcases hb with hb | hb
  · exact World.ownsRow.lt h.1 b (by unfold LnV.hv; rw [slV_own]; exact hb)
  · exact World.ownsRow.lt h.2 b (by unfold LnV.wv; rw [slV_own]; exact hb)
theorem OwnL.kept {l : LnV} (h : OwnL w B l) (hk : ∀ b, LB l b → w'.heap[b]? = w.heap[b]?) : OwnL w' B l :=
  ⟨h.1.kept fun g hg => hk g (.inl (by unfold LnV.hv at hg; rw [slV_own] at hg; exact hg)), h.2.kept fun g hg => hk g (.inr (by unfold LnV.wv at hg; rw [slV_own] at hg; exact hg))⟩
theorem TabAt.ft_lt (h : TabAt B w T X) {i : Nat} (hi : FT T X i) : B ≤ i ∧ i < w.heap.size := by
  rcases hi with rfl | rfl | rfl | ⟨k, l, h1, h2, h3⟩ | ⟨t, ht⟩
  · exact ⟨h.low.1, h.blk.lt⟩
  · exact ⟨h.low.2.1, h.lm.lt⟩
  · exact ⟨h.low.2.2, h.am.lt⟩
  · exact (h.rows k l h1 h2).lt h3
  · obtain ⟨b, e, hb, _, _, hg⟩ := h.sets t _ ht
    cases e
    exact ⟨hb, hg.lt⟩
theorem TabAt.keep (h : TabAt B w T X) (hX : ∀ k, X k → X' k) (hk : ∀ i, FT T X' i → w'.heap[i]? = w.heap[i]?) : TabAt B w' T X' :=
  { low := h.low
    blk := h.blk.of (hk _ (.inl rfl))
    lm := h.lm.of (hk _ (.inr (.inl rfl)))
    am := h.am.of (hk _ (.inr (.inr (.inl rfl))))
    two := h.two
    rows := fun k l h1 h2 => (h.rows k l h1 (fun e => h2 (hX k e))).kept fun b hb => hk b (.inr (.inr (.inr (.inl ⟨k, l, h1, h2, hb⟩))))
    ap := fun k l q m b h1 h2 h3 h4 => h.ap k l q m b h1 (fun e => h2 (hX k e)) h3 (fun e => h4 (hX q e))
    ap2 := fun k l b h1 h2 => h.ap2 k l b h1 (fun e => h2 (hX k e))
    sets := fun t o ho => by
      obtain ⟨b, e, h1, h2, h3, h4⟩ := h.sets t o ho
      exact ⟨b, e, h1, h2, h3, h4.of (hk b (.inr (.inr (.inr (.inr ⟨t, by rw [ho, e]⟩)))))⟩
    ap3 := h.ap3 }
theorem TabAt.below (h : TabAt B w T X) (hb : Ext w w') : TabAt B w' T X := h.keep (fun _ e => e) fun i hi => hb.block i (h.ft_lt hi).2
theorem TabAt.drew (h : TabAt B w T X) : TabAt B w.drew T X := h.below (Below.drew (Below.refl _ _))
theorem TabAt.chg {S : Nat → Prop} (h : TabAt B w T X) (hX : ∀ k, X k → X' k) (k : Chg S w w') (hn : ∀ i, FT T X' i → ¬ S i) : TabAt B w' T X' := h.keep hX fun i hi => k.block i (h.keep (w' := w) hX (fun _ _ => rfl) |>.ft_lt hi).2 (hn i hi)
/-- A line is none of the table's other blocks. -/
theorem TabAt.notRow (h : TabAt B w T X) {l : LnV} (hl : OwnL w B l) {b : Nat} (hb : LB l b) : b ≠ T.g ∧ b ≠ T.mb ∧ b ≠ T.ab ∧ ∀ t, T.A t ≠ some (some b) := by
  have hc : ∃ cur, Blk w b cur 55 := by
    rcases hb with e | e
    · rcases hl.1.form with ⟨e1, _⟩ | ⟨g, c, e1, _, _, _, _, cur, h5, _⟩
      · unfold LnV.hv at e1; rw [e] at e1; cases e1
      · unfold LnV.hv slV at e1; rw [e] at e1; simp at e1; rw [e1.1]; exact ⟨cur, h5⟩
    · rcases hl.2.form with ⟨e1, _⟩ | ⟨g, c, e1, _, _, _, _, cur, h5, _⟩
      · unfold LnV.wv at e1; rw [e] at e1; cases e1
      · unfold LnV.wv slV at e1; rw [e] at e1; simp at e1; rw [e1.1]; exact ⟨cur, h5⟩
  obtain ⟨cur, hc⟩ := hc
  refine ⟨fun e => ?_, fun e => h.lm.ne hc e.symm, fun e => h.am.ne hc e.symm, fun t e => ?_⟩
  · subst e
    exact absurd (hc.inj h.blk).2 (by decide)
  · obtain ⟨b', e1, _, _, _, h4⟩ := h.sets t _ e
    cases e1
    exact h4.ne hc rfl
end
section
variable {ops : Array Oper} {Q : Exit → Act → World → Prop} {K : Act → World → Prop} {i : Nat} {o : Oper} {a : Act} {w w' : World}
theorem wpOp_lay {t : TypeId} {m x y : Operand} {v k u : Value} (ho : ops[i]? = some o) (hw : Region.wanted o (yielded ops a.tmps) = true) (hd : o.dst = none) (hop : o.op = .mapUpdate t m x y) (hm : a.eval m = v) (hx : a.eval x = k) (hy : a.eval y = u)
    (hr : (Instr.mapUpdate t v k u).run Try.prog w = .ok () w') (h : K a w') : wpOp Try.prog ops Q i K a w := by
  unfold wpOp
  simp only [ho, hw, if_true]
  refine .inl ?_
  unfold Oper.wp execOp
  simp only [hop, hm, hx, hy, Sem.run_bind, Sem.run_pure, Result.andThen_ok, hr]
  simp only [Oper.upon]
  rw [hd]
  exact h
theorem exec_ask {ρ : Operand → Value} {t : TypeId} {m x : Operand} {v k u : Value} (hop : o.op = .lookup t m x false) (hm : ρ m = v) (hx : ρ x = k) (hr : (Instr.lookup t v k false).run Try.prog w = .ok u w) : (execOp ρ o).run Try.prog w = .ok (.value u) w := by
  unfold execOp
  simp only [hop, hm, hx, Sem.run_bind, Sem.run_pure, Result.andThen_ok, hr]
theorem exec_map {ρ : Operand → Value} {t : TypeId} (hop : o.op = .makeMap t none) : (execOp ρ o).run Try.prog w = .ok (.value (.map (some w.heap.size))) (w.alloc (.map #[] 0)) := by
  unfold execOp
  simp only [hop, Sem.run_bind, Sem.run_pure, Result.andThen_ok, Option.map_none, run_makeMap]
end
theorem cellW {W0 : World} {a : Addr} {v : Value} (h : W0.cell? a = some v) : ∀ s : Cls (fun x => x = W0), s.wd.cell? a = some v := fun s => by rw [s.ok]; exact h
theorem cls_one (w : World) : Nonempty (Cls (fun x => x = w)) := ⟨⟨w, rfl⟩⟩

def none_ : ByteArray → Prop := fun _ => False
def tab0 (g mb ab : Nat) : Tab := ⟨g, mb, ab, fun _ => none, fun _ => none, fun _ _ => none, 0⟩
set_option maxHeartbeats 1000000 in
theorem new_any (w : World) : Calls Try.prog 11 #[] w fun e w' => ∃ g mb ab, e = .returned (.pointer (some ⟨g, 0, none⟩)) ∧ TabAt w.heap.size w' (tab0 g mb ab) none_ ∧ Ext w w' := by
  obtain ⟨w1, hw1⟩ : ∃ w1, w1 = w.alloc (.map #[] 0) := ⟨_, rfl⟩
  obtain ⟨w2, hw2⟩ : ∃ w2, w2 = w1.alloc (.map #[] 0) := ⟨_, rfl⟩
  obtain ⟨w3, hw3⟩ : ∃ w3, w3 = w2.alloc (.cells #[.map (some w.heap.size), .map (some (w.heap.size + 1))] 65) := ⟨_, rfl⟩
  have s1 : w1.heap.size = w.heap.size + 1 := by rw [hw1]; simp
  have s2 : w2.heap.size = w.heap.size + 2 := by rw [hw2]; simp [s1]
  have HT : Hid (TabAt w.heap.size w3 (tab0 (w.heap.size + 2) w.heap.size (w.heap.size + 1)) none_ ∧ Ext w w3) := by
    have b2 : Blk w3 (w.heap.size + 2) #[.map (some w.heap.size), .map (some (w.heap.size + 1))] 65 := by rw [hw3, ← s2]; exact Blk.new _ _ _
    have e1 : Ext w w1 := by rw [hw1]; exact ext_one _
    have e2 : Ext w1 w2 := by rw [hw2]; exact ext_one _
    have e3 : Ext w2 w3 := by rw [hw3]; exact ext_one _
    have m1 : GM cLn w1 w.heap.size 0 (fun _ => none) := by rw [hw1]; exact GM.made cLn w
    have m2 : GM cAs w2 (w.heap.size + 1) 0 (fun _ => none) := by rw [hw2, ← s1]; exact GM.made cAs w1
    refine ⟨⟨⟨by show _ ≤ w.heap.size + 2; omega, Nat.le_refl _, by show _ ≤ w.heap.size + 1; omega⟩, b2, (m1.below e2).below e3, m2.below e3, by show w.heap.size ≠ w.heap.size + 1; omega, ?_, ?_, ?_, ?_, ?_⟩, Ext.trans (Ext.trans e1 e2) e3⟩
    · intro k l h; cases h
    · intro k l q m b h; cases h
    · intro k l b h; cases h
    · intro t o h; cases h
    · intro t u b h; cases h
  have hmm := @run_makeMap Try.prog
  go_enter Try.func11, Try.ntmps11
  go_wp2
  go_ret
  have h9 := HT.out
  rw [hw3, hw2, hw1] at h9
  exact ⟨_, _, _, rfl, h9.1, h9.2⟩
end Go.Proofs.Ytkgecljoodofeaa

/- net: a row of letters of the law's own beside a net. Own lemmas, no statement. -/
import Derived.Test.YtcemecclpofhbaaWNetTwice
import Derived.Test.YtcemecclpofhbaaOpenN16
set_option linter.unusedSimpArgs false
set_option linter.unusedVariables false
namespace Go.Proofs.Ytcemecclpofhbaa
open Go.ChangeShapes Go.WideShapes Go.ChangeAt Go.RowKit

theorem owns_mono {w : World} {B B' : Nat} {T : TypeId} {k n : Nat} {v : Value} {us : List Value} (h : w.ownsRow B T k v n us) (hB : B' ≤ B) : w.ownsRow B' T k v n us := by
  refine ⟨h.1, ?_⟩
  rcases h.2 with h | ⟨g, cap, cur, rfl, hb, r⟩
  · exact .inl h
  · exact .inr ⟨g, cap, cur, rfl, Nat.le_trans hB hb, r⟩
/-- Letters in a row of the law's own. -/
structure LetI (W : World) (B : Nat) (v : Value) (ls : List LetV) : Prop where
  own : W.ownsRow B 34 2 v ls.length (ls.map LetV.cs).flatten
  el : ∀ x ∈ ls, Own W B x.v x.bs
  apart : Apart ls
/-- The blocks of such a row. -/
def FL (v : Value) (ls : List LetV) (i : Nat) : Prop := v.ownBlock = some i ∨ ∃ x ∈ ls, x.v.ownBlock = some i
section
variable {W W' W1 W2 : World} {B p : Nat} {v v' : Value} {ls : List LetV}
theorem LetI.lt (h : LetI W B v ls) {i : Nat} (hi : FL v ls i) : B ≤ i ∧ i < W.heap.size := by
  rcases hi with hi | ⟨x, hx, hi⟩
  · exact h.own.lt i hi
  · exact World.ownsRow.lt (h.el x hx) i hi
theorem LetI.keep (h : LetI W B v ls) (hk : ∀ i, FL v ls i → W'.heap[i]? = W.heap[i]?) : LetI W' B v ls :=
  ⟨owns_kept h.own fun g hg => hk g (.inl hg), fun x hx => owns_kept (h.el x hx) fun g hg => hk g (.inr ⟨x, hx, hg⟩), h.apart⟩
theorem LetI.below (h : LetI W B v ls) (hb : Below W.heap.size W W') : LetI W' B v ls := h.keep fun i hi => hb.block i (h.lt hi).2
theorem LetI.chg {S : Nat → Prop} (h : LetI W B v ls) (k : Chg S W W') (hn : ∀ i, FL v ls i → ¬ S i) : LetI W' B v ls := h.keep fun i hi => k.block i (h.lt hi).2 (hn i hi)
theorem LetI.form (h : LetI W B v ls) : ∃ a c, v = .slice a ls.length c ∧ ls.length ≤ c ∧ c ≤ maxLen ∧ (a = none → ls = []) ∧ (∀ ad, a = some ad → ∃ g, ad = ⟨g, 0, none⟩) := by
  rcases h.own.2 with ⟨rfl, h0⟩ | ⟨g, cap, cur, rfl, _, _, h1, h2, _⟩
  · have := List.eq_nil_of_length_eq_zero h0
    subst this
    exact ⟨none, 0, rfl, Nat.le_refl _, Nat.zero_le _, (fun _ => rfl), (fun _ e => by cases e)⟩
  · exact ⟨some ⟨g, 0, none⟩, cap, rfl, h1, h2, (fun e => by cases e), (fun ad e => by cases e; exact ⟨g, rfl⟩)⟩
theorem LetI.cell {g n c : Nat} (h : LetI W B (.slice (some ⟨g, 0, none⟩) n c) ls) {i : Nat} {x : LetV} (hx : ls[i]? = some x) : W.cell? ⟨g, i * 2, none⟩ = some (.int .i64 x.dst) ∧ W.cell? ⟨g, i * 2 + 1, none⟩ = some (.slice x.a x.n x.c) := by
  obtain ⟨hi, rfl⟩ := List.getElem?_eq_some_iff.1 hx
  obtain ⟨h1, h2⟩ := flat_at hi
  have e : ∀ j, (⟨g, 0, none⟩ : Addr).add j = ⟨g, j, none⟩ := fun j => by by_cases h0 : j = 0 <;> simp [Addr.add, h0]
  have a1 := h.own.cells rfl _ _ h1
  have a2 := h.own.cells rfl _ _ h2
  rw [e] at a1 a2
  exact ⟨a1, a2⟩
theorem LetI.new (W : World) (B : Nat) (hB : B ≤ W.heap.size) : LetI (W.alloc (.cells #[] 34)) B (.slice (some ⟨W.heap.size, 0, none⟩) 0 0) [] :=
  ⟨by
    have := World.ownsRow_made W (e := 34) (size := 2) #[] 0 (Nat.le_refl _) (Nat.zero_le _) rfl
    exact owns_mono this hB, (fun x hx => by cases hx), List.Pairwise.nil⟩
/-- The elements' blocks are none of the row's. -/
theorem LetI.el_ne (h : LetI W B v ls) {y : LetV} (hy : y ∈ ls) {b : Nat} (e : y.v.ownBlock = some b) : v.ownBlock ≠ some b ∧ B ≤ b ∧ b < W.heap.size := by
  have hyo := h.el y hy
  have hlt := World.ownsRow.lt hyo b e
  rcases hyo.2 with ⟨e2, _⟩ | ⟨g, cap, cur, e2, _, hg', _⟩
  · rw [e2] at e; cases e
  · rw [e2] at e
    simp [Value.ownBlock] at e
    subst e
    refine ⟨fun e3 => ?_, hlt.1, hlt.2⟩
    rcases h.own.2 with ⟨e4, _⟩ | ⟨g2, cap2, cur2, e4, _, hg2, _⟩
    · rw [e4] at e3; cases e3
    · rw [e4] at e3
      simp [Value.ownBlock] at e3
      subst e3
      exact absurd (Blk.inj (show Blk W g2 cur2 34 from hg2) hg').2 (by decide)
/-- A letter more. -/
theorem LetI.push {x : LetV} (h : LetI W B v ls) (hBW : B ≤ W.heap.size) (hx : Own W1 W.heap.size x.v x.bs) (hb : Below W.heap.size W W1)
    (ho : W2.ownsRow B 34 2 v' (ls ++ [x]).length ((ls ++ [x]).map LetV.cs).flatten) (hg : (W1.alloc (.cells x.cs.toArray 34)).grownBy W2 v.ownBlock) (hat : v'.ownBlock = v.ownBlock ∨ v'.ownBlock = some (W1.heap.size + 1)) :
    LetI W2 B v' (ls ++ [x]) ∧ Chg (fun i => v.ownBlock = some i) W W2 ∧ ∀ i, FL v' (ls ++ [x]) i → FL v ls i ∨ W.heap.size ≤ i := by
  have hsz := hb.size
  have hsz2 := hg.size
  simp at hsz2
  have bp : ∀ i, i < W1.heap.size → v.ownBlock ≠ some i → W2.heap[i]? = W1.heap[i]? := fun i hi hne => by
    rw [hg.block i (by simp; omega) (fun e => hne e.symm), Below.heap_alloc _ _ _ hi]
  have hxb : ∀ b, x.v.ownBlock = some b → W.heap.size ≤ b ∧ b < W1.heap.size := fun b e => World.ownsRow.lt hx b e
  refine ⟨⟨ho, fun y hy => ?_, ?_⟩, ?_, ?_⟩
  · rcases List.mem_append.1 hy with hy | hy
    · refine owns_kept (h.el y hy) fun b e => ?_
      obtain ⟨e2, _, e3⟩ := h.el_ne hy e
      rw [bp b (by omega) e2, hb.block b e3]
    · simp at hy
      subst hy
      refine owns_kept (Own.mono hx hBW) fun b e => ?_
      obtain ⟨e1, e2⟩ := hxb b e
      rw [bp b e2 (fun e3 => by have := (h.own.lt b e3).2; omega)]
  · refine List.pairwise_append.2 ⟨h.apart, List.pairwise_singleton _ _, fun y hy z hz b e e2 => ?_⟩
    simp at hz
    subst hz
    have := (h.el_ne hy e).2.2
    have := (hxb b e2).1
    omega
  · refine ⟨hg.os.trans hb.os, hg.tape.trans hb.tape, hg.output.trans hb.output, by omega, fun i hi hne => ?_⟩
    rw [bp i (by omega) (fun e => hne e), hb.block i hi]
  · intro i hi
    rcases hi with hi | ⟨y, hy, hi⟩
    · rcases hat with e | e
      · exact .inl (.inl (by rw [← e]; exact hi))
      · rw [e] at hi
        cases hi
        exact .inr (by omega)
    · rcases List.mem_append.1 hy with hy | hy
      · exact .inl (.inr ⟨y, hy, hi⟩)
      · simp at hy
        subst hy
        exact .inr (hxb i hi).1
/-- A letter's bytes turned. -/
theorem LetI.turn {k : Nat} {x y : LetV} (h : LetI W B v ls) (hk : ls[k]? = some x) (hy : y.v = x.v) (hd : y.dst = x.dst) (ho : Own W' B x.v y.bs) (hc : Chg (fun b => x.v.ownBlock = some b) W W') :
    LetI W' B v (ls.set k y) ∧ ∀ i, FL v (ls.set k y) i → FL v ls i := by
  obtain ⟨hk, hx⟩ := List.getElem?_eq_some_iff.1 hk
  have hxm : x ∈ ls := by rw [← hx]; exact List.getElem_mem _
  have hcs : (ls.set k y).map LetV.cs = ls.map LetV.cs := by
    rw [List.map_set]
    refine List.ext_getElem (by simp) fun j h1 h2 => ?_
    by_cases e : k = j
    · subst e
      simp only [List.getElem_set_self, List.getElem_map]
      rw [hx]
      unfold LetV.v at hy
      simp only [Value.slice.injEq] at hy
      unfold LetV.cs
      rw [hd, hy.1, hy.2.1, hy.2.2]
    · rw [List.getElem_set_ne e]
  have hap : ∀ j (hj : j < ls.length), j ≠ k → ∀ b, ls[j].v.ownBlock = some b → x.v.ownBlock ≠ some b := fun j hj hjk b e e2 => by
    rcases Nat.lt_or_gt_of_ne hjk with e3 | e3
    · exact List.pairwise_iff_getElem.1 h.apart j k hj hk e3 b e (by rw [hx]; exact e2)
    · exact List.pairwise_iff_getElem.1 h.apart k j hk hj e3 b (by rw [hx]; exact e2) e
  refine ⟨⟨?_, fun z hz => ?_, ?_⟩, fun i hi => ?_⟩
  · rw [List.length_set, hcs]
    exact owns_kept h.own fun g e => hc.block g (h.own.lt g e).2 (fun e2 => (h.el_ne hxm e2).1 e)
  · obtain ⟨j, hj, rfl⟩ := List.getElem_of_mem hz
    rw [List.length_set] at hj
    by_cases e : k = j
    · subst e
      rw [List.getElem_set_self, hy]
      exact ho
    · rw [List.getElem_set_ne e]
      have hm := h.el ls[j] (List.getElem_mem _)
      exact owns_kept hm fun b e2 => hc.block b (World.ownsRow.lt hm b e2).2 (hap j hj (Ne.symm e) b e2)
  · refine List.pairwise_iff_getElem.2 fun i j hi hj hij => ?_
    rw [List.length_set] at hi hj
    have h0 := List.pairwise_iff_getElem.1 h.apart i j hi hj hij
    intro b e1 e2
    have g1 : ls[i].v.ownBlock = some b := by
      by_cases e : k = i
      · subst e
        rw [List.getElem_set_self] at e1
        rw [hx, ← hy]; exact e1
      · rw [List.getElem_set_ne e] at e1
        exact e1
    have g2 : ls[j].v.ownBlock = some b := by
      by_cases e : k = j
      · subst e
        rw [List.getElem_set_self] at e2
        rw [hx, ← hy]; exact e2
      · rw [List.getElem_set_ne e] at e2
        exact e2
    exact h0 b g1 g2
  · rcases hi with hi | ⟨z, hz, hi⟩
    · exact .inl hi
    · obtain ⟨j, hj, rfl⟩ := List.getElem_of_mem hz
      rw [List.length_set] at hj
      by_cases e : k = j
      · subst e
        rw [List.getElem_set_self, hy] at hi
        exact .inr ⟨x, hxm, hi⟩
      · rw [List.getElem_set_ne e] at hi
        exact .inr ⟨_, List.getElem_mem _, hi⟩
/-- Some of the letters in a new row. -/
theorem LetI.again {us : List LetV} (h : LetI W B v ls) (hB : B ≤ W.heap.size) (hb : Below W.heap.size W W2) (ho : W2.ownsRow W.heap.size 34 2 v' us.length (us.map LetV.cs).flatten) (hs : us.Sublist ls) :
    LetI W2 B v' us ∧ ∀ i, FL v' us i → FL v ls i ∨ W.heap.size ≤ i := by
  refine ⟨⟨owns_mono ho hB, fun x hx => (h.below hb).el x (hs.subset hx), h.apart.sublist hs⟩, fun i hi => ?_⟩
  rcases hi with hi | ⟨x, hx, hi⟩
  · exact .inr (ho.lt i hi).1
  · exact .inl (.inr ⟨x, hs.subset hx, hi⟩)
end
/-- A net, and beside it a row of the law's own. -/
structure RunX (W : World) (B p : Nat) (v : Value) (ls : List LetV) (u : Value) (us : List LetV) : Prop where
  net : NetI W B p v ls
  own : LetI W B u us
  far : ∀ i, FP p v ls i → ¬ FL u us i
section
variable {W W' : World} {B p : Nat} {v v' u u' : Value} {ls ls' us us' : List LetV} {S : Nat → Prop}
theorem RunX.below (h : RunX W B p v ls u us) (hb : Below W.heap.size W W') : RunX W' B p v ls u us := ⟨h.net.below hb, h.own.below hb, h.far⟩
theorem RunX.chg (h : RunX W B p v ls u us) (hc : Chg S W W') (h1 : ∀ i, FP p v ls i → ¬ S i) (h2 : ∀ i, FL u us i → ¬ S i) : RunX W' B p v ls u us := ⟨h.net.chg hc h1, h.own.chg hc h2, h.far⟩
theorem RunX.turnN (h : RunX W B p v ls u us) (hN : NetI W' B p v' ls') (hc : Chg S W W') (hS : ∀ i, S i → FP p v ls i) (hF : ∀ i, FP p v' ls' i → FP p v ls i ∨ W.heap.size ≤ i) : RunX W' B p v' ls' u us :=
  ⟨hN, h.own.chg hc (fun i hi hs => h.far i (hS i hs) hi), fun i hi hl => by
    rcases hF i hi with e | e
    · exact h.far i e hl
    · have := (h.own.lt hl).2; omega⟩
theorem RunX.turnL (h : RunX W B p v ls u us) (hL : LetI W' B u' us') (hc : Chg S W W') (hS : ∀ i, S i → FL u us i) (hF : ∀ i, FL u' us' i → FL u us i ∨ W.heap.size ≤ i) : RunX W' B p v ls u' us' :=
  ⟨h.net.chg hc (fun i hi hs => h.far i hi (hS i hs)), hL, fun i hi hl => by
    rcases hF i hl with e | e
    · exact h.far i hi e
    · have := (h.net.fp_lt hi).2; omega⟩
end
end Go.Proofs.Ytcemecclpofhbaa

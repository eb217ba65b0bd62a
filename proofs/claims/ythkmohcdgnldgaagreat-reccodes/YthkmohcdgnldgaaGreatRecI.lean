/- Rows of structs that a call makes: they grow by append, and what their elements lead to lies apart. Own lemmas, no statement. -/
import Derived.Test.YthkmohcdgnldgaaGreatRec2
import Derived.Test.YthkmohcdgnldgaaGreatBox
import Derived.Maps.AppendAt
set_option linter.unusedSimpArgs false
set_option linter.unusedVariables false
namespace Go.Proofs.YthkmohcdgnldgaaGreat
open Go.ChangeShapes Go.WideShapes Go.ChangeAt Go.RowKit

/-- What holds in a world, and in each that has the same blocks from lo on up to hi. -/
def StaI (lo hi : Nat) (W : World) (Q : World → Prop) : Prop := ∀ W2 : World, (∀ i, lo ≤ i → i < hi → W2.heap[i]? = W.heap[i]?) → Q W2
section
variable {W W' : World} {lo hi lo' hi' B : Nat} {Q Q' : World → Prop}
theorem StaI.here (h : StaI lo hi W Q) : Q W := h W fun _ _ _ => rfl
theorem StaI.move (h : StaI lo hi W Q) (hk : ∀ i, lo ≤ i → i < hi → W'.heap[i]? = W.heap[i]?) : StaI lo hi W' Q := fun W3 h3 => h W3 fun i a b => (h3 i a b).trans (hk i a b)
theorem StaI.wide (h : StaI lo hi W Q) (h1 : lo' ≤ lo) (h2 : hi ≤ hi') : StaI lo' hi' W Q := fun W3 h3 => h W3 fun i a b => h3 i (by omega) (by omega)
theorem StaI.mono (h : StaI lo hi W Q) (hq : ∀ W, Q W → Q' W) : StaI lo hi W Q' := fun W3 h3 => hq W3 (h W3 h3)
theorem StaI.and (h : StaI lo hi W Q) (h' : StaI lo hi W Q') : StaI lo hi W fun W => Q W ∧ Q' W := fun W3 h3 => ⟨h W3 h3, h' W3 h3⟩
theorem StaI.all {p : Prop} (h : p) : StaI lo hi W fun _ => p := fun _ _ => h
theorem StaI.grown {g : Nat} (h : StaI lo hi W Q) (hhi : hi ≤ W.heap.size) (hg : W.grownBy W' (some g)) (hn : g < lo) : StaI lo hi W' Q :=
  h.move fun i a b => hg.block i (by omega) (fun e => by cases e; omega)
theorem StaI.below (h : StaI lo hi W Q) (hhi : hi ≤ W.heap.size) (hb : Below W.heap.size W W') : StaI lo hi W' Q :=
  h.move fun i a b => hb.block i (by omega)
theorem StaI.setCell (h : StaI lo hi W Q) {b i : Nat} (hn : b < lo) (u : Value) : StaI lo hi (W.setCell ⟨b, i, none⟩ u) Q :=
  h.move fun j a _ => Below.heap_setCell _ _ _ _ (by show j ≠ b; omega)
theorem owns_kept {T : TypeId} {k n : Nat} {v : Value} {us : List Value} (h : W.ownsRow B T k v n us) (hb : ∀ g, v.ownBlock = some g → W'.heap[g]? = W.heap[g]?) : W'.ownsRow B T k v n us := by
  refine ⟨h.1, ?_⟩
  rcases h.2 with hn | ⟨g, cap, cur, rfl, hbg, hgg, rest⟩
  · exact .inl hn
  · exact .inr ⟨g, cap, cur, rfl, hbg, by rw [hb g rfl]; exact hgg, rest⟩
theorem owns_sta {T : TypeId} {k n : Nat} {v : Value} {us : List Value} (h : W.ownsRow B T k v n us) : StaI B W.heap.size W fun W => W.ownsRow B T k v n us := fun W2 h2 => owns_kept h fun g hg => h2 g (h.lt g hg).1 (h.lt g hg).2
theorem ownV_sta {T : TypeId} {v : Value} {us : List Value} (h : OwnV W B T v us) : StaI B W.heap.size W fun W => Rd W v us := fun W2 h2 => (OwnV.kept h fun g hg => h2 g (h.blk g hg).1 (h.blk g hg).2).rd
end
theorem flat_get {α : Type} {cs : α → List Value} {k : Nat} (hk : ∀ x, (cs x).length = k) : ∀ {l : List α} {i : Nat} {x : α} {j : Nat} {u : Value}, l[i]? = some x → (cs x)[j]? = some u → (l.map cs).flatten[i * k + j]? = some u
  | [], i, x, j, u, h, _ => by simp at h
  | y :: t, 0, x, j, u, h, hu => by
    simp at h
    subst h
    have hj := (List.getElem?_eq_some_iff.1 hu).1
    simp only [List.map_cons, List.flatten_cons, Nat.zero_mul, Nat.zero_add]
    rw [List.getElem?_append_left hj]
    exact hu
  | y :: t, i + 1, x, j, u, h, hu => by
    have h' : t[i]? = some x := by simpa using h
    have := flat_get hk (l := t) h' hu
    simp only [List.map_cons, List.flatten_cons]
    rw [List.getElem?_append_right (by rw [hk, Nat.add_mul]; omega), hk, show (i + 1) * k + j - k = i * k + j by rw [Nat.add_mul]; omega]
    exact this
theorem rows_of_own {α : Type} {W : World} {B k : Nat} {T : TypeId} {cs : α → List Value} {v : Value} {xs : List α} (hk : ∀ x, (cs x).length = k) (h : W.ownsRow B T k v xs.length (xs.map cs).flatten) : RowsN W k cs v xs := by
  rcases h.2 with ⟨rfl, h0⟩ | ⟨g, cap, cur, rfl, _, _, h1, h2, _, _⟩
  · have := List.eq_nil_of_length_eq_zero h0
    subst this
    exact RowsN.nil _ _ _
  · exact ⟨some ⟨g, 0, none⟩, cap, rfl, h1, h2, fun e => (by cases e), fun ad had i x hx j u hu => by
      cases had
      exact h.cells rfl _ _ (flat_get hk hx hu)⟩
structure RowI {α : Type} (W : World) (B : Nat) (T : TypeId) (k : Nat) (cs : α → List Value) (At : World → α → Prop) (v : Value) (xs : List α) : Prop where
  own : W.ownsRow B T k v xs.length (xs.map cs).flatten
  el : ∀ x ∈ xs, ∃ lo hi, B ≤ lo ∧ hi ≤ W.heap.size ∧ (∀ b, v.ownBlock = some b → b < lo ∨ hi ≤ b) ∧ StaI lo hi W (fun W => At W x)
section
variable {α : Type} {W W' : World} {B k : Nat} {T : TypeId} {cs : α → List Value} {At : World → α → Prop} {v v' : Value} {xs : List α}
theorem RowI.nil (W : World) (B : Nat) (T : TypeId) (k : Nat) (cs : α → List Value) (At : World → α → Prop) : RowI W B T k cs At (.slice none 0 0) [] := ⟨World.ownsRow_nil _ _ _ _, fun x hx => by cases hx⟩
theorem RowI.keep (h : RowI W B T k cs At v xs) (hs : W.heap.size ≤ W'.heap.size) (hk : ∀ i, B ≤ i → i < W.heap.size → W'.heap[i]? = W.heap[i]?) : RowI W' B T k cs At v xs :=
  ⟨owns_kept h.own fun g hg => hk g (h.own.lt g hg).1 (h.own.lt g hg).2, fun x hx => by
    obtain ⟨lo, hi, h1, h2, h3, h4⟩ := h.el x hx
    exact ⟨lo, hi, h1, Nat.le_trans h2 hs, h3, h4.move fun i a b => hk i (by omega) (by omega)⟩⟩
theorem RowI.grown {g : Nat} (h : RowI W B T k cs At v xs) (hg : W.grownBy W' (some g)) (hn : g < B) : RowI W' B T k cs At v xs := h.keep hg.size fun i a b => hg.block i b (fun e => by cases e; omega)
theorem RowI.below (h : RowI W B T k cs At v xs) (hb : Below W.heap.size W W') : RowI W' B T k cs At v xs := h.keep hb.size fun i a b => hb.block i b
theorem RowI.drew (h : RowI W B T k cs At v xs) : RowI W.drew B T k cs At v xs := h.keep (Nat.le_refl _) fun _ _ _ => rfl
theorem RowI.sta (h : RowI W B T k cs At v xs) (hk : ∀ x, (cs x).length = k) : StaI B W.heap.size W (fun W => RowsN W k cs v xs ∧ ∀ x ∈ xs, At W x) := fun W2 h2 =>
  ⟨rows_of_own hk (owns_kept h.own fun g hg => h2 g (h.own.lt g hg).1 (h.own.lt g hg).2), fun x hx => by
    obtain ⟨lo, hi, h1, h2', h3, h4⟩ := h.el x hx
    exact h4 W2 fun i a b => h2 i (by omega) (by omega)⟩
theorem RowI.push (h : RowI W B T k cs At v xs) {x : α} {lo hi : Nat} {o : Obj} (hx : StaI lo hi W (fun W => At W x)) (hlo : B ≤ lo) (hhi : hi ≤ W.heap.size) (hap : ∀ b, v.ownBlock = some b → b < lo ∨ hi ≤ b)
    (ho : W'.ownsRow B T k v' (xs.length + 1) ((xs.map cs).flatten ++ cs x)) (hg : (W.alloc o).grownBy W' v.ownBlock) (hat : v'.ownBlock = v.ownBlock ∨ v'.ownBlock = some (W.heap.size + 1)) : RowI W' B T k cs At v' (xs ++ [x]) := by
  have hsz := hg.size
  simp at hsz
  refine ⟨by rw [List.length_append, List.length_singleton, List.map_append, List.flatten_append, List.map_singleton, List.flatten_singleton]; exact ho, fun y hy => ?_⟩
  have key : ∃ lo hi, B ≤ lo ∧ hi ≤ W.heap.size ∧ (∀ b, v.ownBlock = some b → b < lo ∨ hi ≤ b) ∧ StaI lo hi W (fun W => At W y) := by
    rcases List.mem_append.1 hy with h1 | h1
    · exact h.el y h1
    · simp at h1
      subst h1
      exact ⟨lo, hi, hlo, hhi, hap, hx⟩
  obtain ⟨l, u, h1, h2, h3, h4⟩ := key
  refine ⟨l, u, h1, by omega, fun b hb => ?_, h4.move fun i a b => ?_⟩
  · rcases hat with e | e
    · exact h3 b (by rw [← e]; exact hb)
    · rw [e] at hb; cases hb; omega
  · rw [hg.block i (by simp; omega) (fun e => by have := h3 i e.symm; omega), Below.heap_alloc _ _ _ (by omega)]
end
theorem cells_new (w : World) (l : List Value) (t : TypeId) : ∀ j u, l[j]? = some u → (w.alloc (.cells l.toArray t)).cell? ((⟨w.heap.size, 0, none⟩ : Addr).add j) = some u := by
  intro j u hj
  have := (Blk.new w l.toArray t).cell j
  rw [show (⟨w.heap.size, 0, none⟩ : Addr).add j = ⟨w.heap.size, j, none⟩ by by_cases h0 : j = 0 <;> simp [Addr.add, h0], this]
  simpa using hj
/-- 'append(l, x)' of one struct, l the call's own: x has just been laid in a block of its own. -/
theorem wpList_pushN {α : Type} {ops : Array Oper} {rest : List Oper} {o : Oper} {a : Act} {Q : Exit → Act → World → Prop} (W : World) (hgd : o.guard = none) (s y : Operand) (tS T : TypeId) (z : Value) (k bytes : Nat)
    (ht : Tryz.prog.underlying tS = some (.slice T)) (hinf : (Tryz.prog.info? T).map (fun i => (i.zero, i.size, i.bytes)) = some (some z, k, bytes)) (hzs : z.cells.size = k) (hk0 : 0 < k)
    (ho : o.op = .call { callee := .builtin .append, args := #[s, y], argTypes := #[tS, tS] })
    (B : Nat) (v : Value) (cs : α → List Value) (xs : List α) (x : α) (arr : Array Value) (harr : arr = (cs x).toArray) (hck : ∀ x, (cs x).length = k) (h1 : ∀ u ∈ cs x, u.oneCell' = true)
    (hown : W.ownsRow B T k v xs.length (xs.map cs).flatten) (hs : a.eval s = v) (hx : a.eval y = .slice (some ⟨W.heap.size, 0, none⟩) 1 1)
    (hl : xs.length ≤ 1000000) (hbb : bytes ≤ 10000) (hB : B ≤ W.heap.size)
    (hK : ∀ a' n' c' W', n' = xs.length + 1 → W'.ownsRow B T k (.slice a' n' c') (xs.length + 1) ((xs.map cs).flatten ++ cs x) → (W.alloc (.cells arr T)).grownBy W' v.ownBlock → ((Value.slice a' n' c').ownBlock = v.ownBlock ∨ (Value.slice a' n' c').ownBlock = some (W.heap.size + 1)) → wpList Tryz.prog ops Q rest (a.put o.dst (.slice a' n' c')) W') :
    wpList Tryz.prog ops Q (o :: rest) a (W.alloc (.cells arr T)) := by
  subst harr
  obtain ⟨i0, hi, hz0, hz1, hz2⟩ := info_parts hinf
  have hb : (xs.length + 1) * bytes ≤ 1000001 * 10000 := Nat.mul_le_mul (by omega) hbb
  refine wpList_append_own_at _ hgd s y tS ho B T i0 z k bytes ht hi hz0 hz1 hz2 hzs hk0 v xs.length _ hs (World.ownsRow.alloc hown _) ⟨W.heap.size, 0, none⟩ 1 1 (cs x) hx (by rw [hck]; omega) (cells_new _ _ _) h1 (by unfold maxLen; omega) (by omega) (by simp; omega) ?_
  intro v' w' h2 h3 _ h5
  have h4 : w'.ownsRow B T k v' (xs.length + 1) ((xs.map cs).flatten ++ cs x) := h2
  rcases h4.2 with ⟨_, h0⟩ | ⟨g, cap, cur, rfl, _⟩
  · cases h0
  · exact hK _ _ _ w' rfl h4 h3 (by simpa using h5)
end Go.Proofs.YthkmohcdgnldgaaGreat

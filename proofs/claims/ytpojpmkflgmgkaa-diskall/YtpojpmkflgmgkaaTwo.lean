/- Two disks, and rows of the law's own beside them. Own lemmas, no statement. -/
import Derived.Test.YtpojpmkflgmgkaaDisk8
import Derived.Test.YtpojpmkflgmgkaaOps4
namespace Go.Proofs.Ytpojpmkflgmgkaa
open Go.ChangeShapes Go.WideShapes Go.ChangeAt Go.RowKit

theorem NewAt.chg {w0 w w' : World} {B g : Nat} {f : Foot} {st : DSt} {S : Nat → Prop} (h : NewAt w0 B w g f st) (k : Chg S w w') (hS : ∀ i, f.has i → ¬ S i) (hB : ∀ i, S i → B ≤ i) : NewAt w0 B w' g f st :=
  ⟨h.at_.keep k hS, h.own, h.bel.trans (k.below h.lt hB), h.le, h.ptr⟩

/-- Two disks apart. -/
structure Two (w0 : World) (B : Nat) (w : World) (ga : Nat) (fa : Foot) (sa : DSt) (gb : Nat) (fb : Foot) (sb : DSt) : Prop where
  a : NewAt w0 B w ga fa sa
  b : NewAt w0 B w gb fb sb
  ap : ∀ k, fa.has k → ¬ fb.has k
section
variable {w0 w w' : World} {B ga gb : Nat} {fa fb fa' fb' : Foot} {sa sb sa' sb' : DSt} {S : Nat → Prop}
theorem Two.left (h : Two w0 B w ga fa sa gb fb sb) (hT : Turned fa w fa' w') (hN : NewAt w0 B w' ga fa' sa') : Two w0 B w' ga fa' sa' gb fb sb :=
  ⟨hN, h.b.chg hT.chg (fun i hi e => h.ap i e hi) h.a.own, fun k hk hb => by
    rcases hT.new k hk with h' | h'
    · exact h.ap k h' hb
    · have := h.b.at_.hasLt k hb; omega⟩
theorem Two.right (h : Two w0 B w ga fa sa gb fb sb) (hT : Turned fb w fb' w') (hN : NewAt w0 B w' gb fb' sb') : Two w0 B w' ga fa sa gb fb' sb' :=
  ⟨h.a.chg hT.chg (fun i hi e => h.ap i hi e) h.b.own, hN, fun k hk hb => by
    rcases hT.new k hb with h' | h'
    · exact h.ap k hk h'
    · have := h.a.at_.hasLt k hk; omega⟩
theorem Two.chg (h : Two w0 B w ga fa sa gb fb sb) (k : Chg S w w') (hS : ∀ i, S i → B ≤ i ∧ ¬ fa.has i ∧ ¬ fb.has i) : Two w0 B w' ga fa sa gb fb sb :=
  ⟨h.a.chg k (fun i hi e => (hS i e).2.1 hi) (fun i e => (hS i e).1), h.b.chg k (fun i hi e => (hS i e).2.2 hi) (fun i e => (hS i e).1), h.ap⟩
theorem Two.below (h : Two w0 B w ga fa sa gb fb sb) (k : Below w.heap.size w w') : Two w0 B w' ga fa sa gb fb sb := ⟨h.a.below k, h.b.below k, h.ap⟩
end

/-- Blocks that are new since B and none of the disks'. -/
def Mine (B : Nat) (fa fb : Foot) (k : Nat) : Prop := B ≤ k ∧ ¬ fa.has k ∧ ¬ fb.has k
theorem Mine.left {B k : Nat} {fa fb fa' : Foot} {w w' : World} (h : Mine B fa fb k) (hT : Turned fa w fa' w') (hk : k < w.heap.size) : Mine B fa' fb k := ⟨h.1, hT.not hk h.2.1, h.2.2⟩
theorem Mine.right {B k : Nat} {fa fb fb' : Foot} {w w' : World} (h : Mine B fa fb k) (hT : Turned fb w fb' w') (hk : k < w.heap.size) : Mine B fa fb' k := ⟨h.1, h.2.1, hT.not hk h.2.2⟩
theorem Two.mine {w0 w : World} {B ga gb : Nat} {fa fb : Foot} {sa sb : DSt} (h : Two w0 B w ga fa sa gb fb sb) {k : Nat} (hk : w.heap.size ≤ k) : Mine B fa fb k :=
  ⟨Nat.le_trans h.a.lt hk, fun e => by have := h.a.at_.hasLt k e; omega, fun e => by have := h.b.at_.hasLt k e; omega⟩

/-- A row of elements of one cell each that the law has made. -/
structure Row1 (w : World) (M : Nat → Prop) (T : TypeId) (v : Value) (xs : List Value) : Prop where
  own : w.ownsRow 0 T 1 v xs.length xs
  mine : ∀ k, v.ownBlock = some k → M k
section
variable {w w' : World} {M M' S : Nat → Prop} {T : TypeId} {v : Value} {xs : List Value}
theorem Row1.nil : Row1 w M T (.slice none 0 0) [] := ⟨World.ownsRow_nil _ _ _ _, fun k hk => by simp [Value.ownBlock] at hk⟩
theorem Row1.lt (h : Row1 w M T v xs) {k : Nat} (hk : v.ownBlock = some k) : k < w.heap.size := (h.own.lt k hk).2
theorem Row1.chg (h : Row1 w M T v xs) (k : Chg S w w') (hS : ∀ i, M i → ¬ S i) : Row1 w' M T v xs := by
  refine ⟨⟨h.own.1, ?_⟩, h.mine⟩
  rcases h.own.2 with h' | ⟨g, cap, cur, rfl, hB, hg, r⟩
  · exact .inl h'
  · exact .inr ⟨g, cap, cur, rfl, hB, by rw [k.block g (Array.getElem?_eq_some_iff.1 hg).1 (hS g (h.mine g rfl))]; exact hg, r⟩
theorem Row1.mono (h : Row1 w M T v xs) (hM : ∀ k, k < w.heap.size → M k → M' k) : Row1 w M' T v xs := ⟨h.own, fun k hk => hM k (h.lt hk) (h.mine k hk)⟩
theorem Row1.below (h : Row1 w M T v xs) (k : Below w.heap.size w w') : Row1 w' M T v xs := by
  refine ⟨⟨h.own.1, ?_⟩, h.mine⟩
  rcases h.own.2 with h' | ⟨g, cap, cur, rfl, hB, hg, r⟩
  · exact .inl h'
  · exact .inr ⟨g, cap, cur, rfl, hB, by rw [k.block g (Array.getElem?_eq_some_iff.1 hg).1]; exact hg, r⟩
theorem Row1.form (h : Row1 w M T v xs) : ∃ ao cap, v = .slice ao xs.length cap ∧ xs.length ≤ cap ∧ cap ≤ maxLen ∧ (ao = none → xs = []) ∧ ∀ a, ao = some a → a = ⟨a.block, 0, none⟩ := by
  rcases h.own.2 with ⟨rfl, hn⟩ | ⟨g, cap, cur, rfl, hB, hg, h3, h4, r⟩
  · have : xs = [] := List.eq_nil_of_length_eq_zero hn
    subst this
    exact ⟨none, 0, rfl, Nat.le_refl _, Nat.zero_le _, fun _ => rfl, fun a e => by cases e⟩
  · exact ⟨_, cap, rfl, h3, h4, fun e => (by cases e), fun a e => by cases e; rfl⟩
theorem Row1.cell {ao : Option Addr} {n cap i : Nat} {u : Value} (h : Row1 w M T (.slice ao n cap) xs) (hi : xs[i]? = some u) : ∃ g, ao = some ⟨g, 0, none⟩ ∧ w.cell? ⟨g, i, none⟩ = some u := by
  have hlt := (List.getElem?_eq_some_iff.1 hi).1
  rcases h.own.2 with ⟨_, hn⟩ | ⟨g, cap', cur, e, hB, hg, h3, h4, r⟩
  · omega
  · simp only [Value.slice.injEq] at e
    obtain ⟨rfl, rfl, rfl⟩ := e
    refine ⟨g, rfl, ?_⟩
    rw [h.own.cellAt i (by omega)]
    exact hi
theorem Row1.empty (w : World) (T : TypeId) (hM : M w.heap.size) : Row1 (w.alloc (.cells #[] T)) M T (.slice (some ⟨w.heap.size, 0, none⟩) 0 0) [] :=
  ⟨World.ownsRow_made w #[] 0 (Nat.zero_le _) (Nat.zero_le _) rfl, fun k hk => by simp [Value.ownBlock] at hk; subst hk; exact hM⟩

def IsSl (v : Value) (n : Nat) : Prop := ∃ ao cap, v = .slice ao n cap
/-- 'append(row, x)': x has just been laid in a block of its own. -/
theorem wpList_push1 {ops : Array Oper} {rest : List Oper} {o : Oper} {a : Act} {Q : Exit → Act → World → Prop} (w : World) (hgd : o.guard = none) (s x : Operand) (t : TypeId)
    (ho : o.op = .call { callee := .builtin .append, args := #[s, x], argTypes := #[t, t] }) (z : Value) (bytes : Nat) (hinf : (Try.prog.info? T).map (fun i => (i.zero, i.size, i.bytes)) = some (some z, 1, bytes)) (hz : z.cells.size = 1) (hby : bytes ≤ 16) (ht : Try.prog.underlying t = some (.slice T))
    (u : Value) (hown : Row1 w M T v xs) (hu1 : u.oneCell' = true) (hM : ∀ k, w.heap.size ≤ k → M k)
    (hs : a.eval s = v) (hx : a.eval x = .slice (some ⟨w.heap.size, 0, none⟩) 1 1) (n : Nat) (hn : xs.length = n) (hl : n < 1099511627776)
    (hK : ∀ v' w', Row1 w' M T v' (xs ++ [u]) → Chg (fun k => v.ownBlock = some k) w w' → IsSl v' (n + 1) → (v'.ownBlock = v.ownBlock ∨ v'.ownBlock = some (w.heap.size + 1)) → wpList Try.prog ops Q rest (a.put o.dst v') w') :
    wpList Try.prog ops Q (o :: rest) a (w.alloc (.cells #[u] T)) := by
  subst hn
  obtain ⟨i0, hi, hz0, hz1, hz2⟩ := info_parts hinf
  refine wpList_append_own_at _ hgd s x t ho 0 T i0 z 1 bytes ht hi hz0 hz1 hz2 hz (by decide) v xs.length xs hs (hown.own.alloc _) ⟨w.heap.size, 0, none⟩ 1 1 [u] hx rfl ?_ ?_ ?_ ?_ (Nat.zero_le _) ?_
  · intro j q hj
    rw [Addr.add_mid, Nat.zero_add, (Blk.new w _ _).cell, List.getElem?_toArray]
    exact hj
  · intro q hq; simp at hq; subst hq; exact hu1
  · unfold maxLen; omega
  · calc _ ≤ (xs.length + 1) * 16 := Nat.mul_le_mul_left _ hby
      _ ≤ _ := by omega
  · intro v' w' k1 k2 k3 k4
    have hch : Chg (fun k => v.ownBlock = some k) w w' := ((Chg.refl _ w).alloc _).grown k2 (fun k e _ => e)
    refine hK v' w' ⟨by simpa using k1, fun k hk => ?_⟩ hch ?_ (by simpa using k4)
    · rcases k4 with e | e
      · exact hown.mine k (by rw [← e]; exact hk)
      · rw [hk] at e
        have := Option.some.inj e
        exact hM k (by rw [this]; simp)
    · rcases k1.2 with ⟨_, hn⟩ | ⟨g, cap, cur, e, _⟩
      · simp at hn
      · exact ⟨_, cap, e⟩
end
theorem infoB : (Try.prog.info? 4).map (fun i => (i.zero, i.size, i.bytes)) = some (some (.bool false), 1, 1) := by kernel_rfl
theorem infoStr : (Try.prog.info? 9).map (fun i => (i.zero, i.size, i.bytes)) = some (some (.string ByteArray.empty), 1, 16) := by kernel_rfl
end Go.Proofs.Ytpojpmkflgmgkaa

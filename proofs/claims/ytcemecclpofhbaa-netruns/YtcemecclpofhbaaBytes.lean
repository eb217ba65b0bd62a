/- Slices of bytes: what a value reads as, what a call owns; the laws on append at bytes. Own lemmas, no statement. -/
import Derived.Test.YtcemecclpofhbaaCell
namespace Go.Proofs.Ytcemecclpofhbaa
open Go.ChangeShapes Go.WideShapes Go.ChangeAt Go.RowKit

/-- Bytes as cells. -/
def bv (l : List UInt8) : List Value := l.map fun c => .int .u8 (c.toNat : Int)
theorem bv_length (l : List UInt8) : (bv l).length = l.length := by simp [bv]
theorem bv_append (l m : List UInt8) : bv (l ++ m) = bv l ++ bv m := by simp [bv]
theorem bv_one (l : List UInt8) : ∀ u ∈ bv l, u.oneCell' = true := by
  intro u hu
  simp only [bv, List.mem_map] at hu
  obtain ⟨c, _, rfl⟩ := hu
  rfl

def join (l m : List UInt8) : List UInt8 := l ++ m

/-- A slice of bytes that a call owns, from block B on. -/
def Own (w : World) (B : Nat) (v : Value) (l : List UInt8) : Prop := w.ownsRow B 5 1 v l.length (bv l)

/-- A slice of bytes that can be read. -/
def SrcAt (w : World) (ao : Option Addr) (c : Nat) (l : List UInt8) : Prop :=
  (ao = none → l = [] ∧ c = 0) ∧ ∀ ad, ao = some ad → ∀ j u, (bv l)[j]? = some u → w.cell? (ad.add j) = some u
def Src (w : World) (v : Value) (l : List UInt8) : Prop := ∃ ao c, v = .slice ao l.length c ∧ l.length ≤ c ∧ c ≤ maxLen ∧ SrcAt w ao c l

theorem Own.src {w : World} {B : Nat} {v : Value} {l : List UInt8} (h : Own w B v l) : Src w v l := by
  rcases h.2 with ⟨rfl, hn⟩ | ⟨g, cap, cur, rfl, hb, hg, hnc, hcm, hcs, ht⟩
  · have : l = [] := List.eq_nil_of_length_eq_zero hn
    subst this
    exact ⟨none, 0, rfl, Nat.le_refl _, Nat.zero_le _, fun _ => ⟨rfl, rfl⟩, fun ad h => by cases h⟩
  · exact ⟨_, cap, rfl, hnc, hcm, fun h => (by cases h), fun ad had => by cases had; exact World.ownsRow.cells h rfl⟩

theorem Own.mono {w : World} {B B' : Nat} {v : Value} {l : List UInt8} (h : Own w B v l) (hB : B' ≤ B) : Own w B' v l := by
  refine ⟨h.1, ?_⟩
  rcases h.2 with h | ⟨g, cap, cur, rfl, hb, r⟩
  · exact .inl h
  · exact .inr ⟨g, cap, cur, rfl, Nat.le_trans hB hb, r⟩

theorem Src.below {w w' : World} {v : Value} {l : List UInt8} (h : Src w v l) (hb : Below w.heap.size w w') : Src w' v l := by
  obtain ⟨ao, c, rfl, h1, h2, h3, h4⟩ := h
  exact ⟨ao, c, rfl, h1, h2, h3, fun ad had j u hu => by rw [hb.cell (cell_lt (h4 ad had j u hu))]; exact h4 ad had j u hu⟩

theorem Own.below {w w' : World} {B : Nat} {v : Value} {l : List UInt8} (h : Own w B v l) (hb : Below w.heap.size w w') : Own w' B v l := by
  refine ⟨h.1, ?_⟩
  rcases h.2 with h | ⟨g, cap, cur, rfl, hB, hg, r⟩
  · exact .inl h
  · exact .inr ⟨g, cap, cur, rfl, hB, by rw [hb.block g (Array.getElem?_eq_some_iff.1 hg).1]; exact hg, r⟩

theorem Own.nil (w : World) (B : Nat) : Own w B (.slice none 0 0) [] := World.ownsRow_nil _ _ _ _

theorem info8 : (Try.prog.info? 5).map (fun i => (i.zero, i.size, i.bytes)) = some (some (.int .u8 0), 1, 1) := by kernel_rfl

/-- 'append(b, c...)', both of bytes, b the call's own. -/
theorem wpList_join {ops : Array Oper} {rest : List Oper} {o : Oper} {a : Act} {Q : Exit → Act → World → Prop} (w : World) (hgd : o.guard = none) (s x : Operand)
    (ho : o.op = .call { callee := .builtin .append, args := #[s, x], argTypes := #[28, 28] })
    (B : Nat) (v : Value) (l m : List UInt8) (hown : Own w B v l) (hs : a.eval s = v) (vx : Value) (hsrc : Src w vx m) (hx : a.eval x = vx)
    (hl : l.length + m.length < 1099511627776) (hB : B ≤ w.heap.size)
    (hK : ∀ v' w', Own w' B v' (join l m) → w.grownBy w' v.ownBlock → (v' = .slice none 0 0 → v = .slice none 0 0) → wpList Try.prog ops Q rest (a.put o.dst v') w') :
    wpList Try.prog ops Q (o :: rest) a w := by
  obtain ⟨i0, hi, hz0, hz1, hz2⟩ := info_parts info8
  obtain ⟨ao, c, rfl, h1, h2, h3, h4⟩ := hsrc
  cases ao with
  | none =>
    obtain ⟨rfl, rfl⟩ := h3 rfl
    refine wpList_plain hgd fun K hK' => ?_
    have hrun := run_append_owned_none (P := Try.prog) w B 28 o.type 5 i0 1 Try.underlying28 hi v l.length (bv l) hown
    unfold Oper.wp
    simp only [List.length_nil] at hx
    simp [execOp, ho, resolve, invoke, builtin, hs, hx, hrun, Result.andThen]
    exact hK' _ _ (hK v w (by simpa [join] using hown) (World.grownBy.refl _ _) id)
  | some ad =>
    refine wpList_append_own _ hgd s x 28 ho B 5 i0 (.int .u8 0) 1 1 Try.underlying28 hi hz0 hz1 hz2 rfl (by decide) v l.length (bv l) hs hown ad m.length c (bv m) hx (by rw [bv_length]; omega) (h4 ad rfl) (bv_one m) (by unfold maxLen; omega) (by omega) hB ?_
    intro v' w' k1 k2 k3
    refine hK v' w' ?_ k2 (fun h => (k3.1 h).1)
    unfold Own join
    rw [List.length_append, bv_append]
    exact k1
end Go.Proofs.Ytcemecclpofhbaa

/- A page in a block of its own, its rows behind it. Own lemmas, no statement. -/
import Derived.Test.YtmjekecalghhdaaNd11
import Derived.Test.YtmjekecalghhdaaNd8
import Derived.Deep.CutBlock
set_option linter.unusedSimpArgs false
set_option linter.unusedVariables false
namespace Go.Proofs.Ytmjekecalghhdaa
open Go.ChangeShapes Go.WideShapes Go.ChangeAt Go.RowKit
structure PIn (W : World) (b : Nat) (p : Pg) (kv vv dv : Value) : Prop where
  B : PBox W b p kv vv dv
  P : PgAt W p kv vv dv
section
variable {w W W' : World} {b : Nat} {p : Pg} {kv vv dv : Value}
theorem PIn.below (h : PIn W b p kv vv dv) (x : Below W.heap.size W W') : PIn W' b p kv vv dv := ⟨h.B.below x, h.P.below x⟩
theorem PIn.new (h : PgAt W p kv vv dv) : PIn (W.alloc (.cells #[.int .i64 p.kind, kv, vv, dv, .int .i64 p.root, .int .i64 p.next, .int .i64 p.size, .int .i64 p.idle] 25)) W.heap.size p kv vv dv := ⟨Blk.new _ _ _, h.below ((Below.refl _ _).alloc (Nat.le_refl _) _)⟩
theorem PIn.len {ka kn kc va vn vc da dn dc} (h : PgAt W p (.slice ka kn kc) (.slice va vn vc) (.slice da dn dc)) : kn = p.keys.length ∧ vn = p.vals.length ∧ dn = p.kids.length := by
  have h1 := h.keys.at.1
  have h2 := h.vals.at.1
  have h3 := h.kids.at.1
  rw [sv_length] at h1 h2
  simp [iv] at h3
  exact ⟨h1, h2, h3⟩
theorem below_alloc (o : Obj) : Below W.heap.size W (W.alloc o) := (Below.refl _ _).alloc (Nat.le_refl _) _
end
/-- node's At, Get, Put and Drop of the law's leaf. -/
theorem atL_any (ks : List ByteArray) (k : ByteArray) (kv vv dv : Value) (W : World) (hp : PgAt W (leafM ks) kv vv dv) (hr : RisB ks) (hl : ks.length ≤ 1000) :
    Calls Try.prog 26 #[pgv (leafM ks) kv vv dv, .string k] W fun e w' => e = .returned (.tuple #[.int .i64 (idxB k ks : Int), .bool (hasB k ks)]) ∧ Below W.heap.size W w' := by
  have := at_any (leafM ks) k _ _ _ W hp hr (by show ks.length < _; omega)
  have e : atI (leafM ks) k = idxB k ks := by simp [atI, leafM]
  rw [e] at this
  exact this
theorem getL_any (p : Pg) (k : ByteArray) (g : ByteArray) (is : Bool) (kv vv dv : Value) (W : World) (hp : PgAt W p kv vv dv) (hr : RisB p.keys) (hl : p.keys.length ≤ 1000) (hl2 : p.vals.length ≤ 1000) (hg : getP p k = (g, is)) :
    Calls Try.prog 27 #[pgv p kv vv dv, .string k] W fun e w' => e = .returned (.tuple #[.string g, .bool is]) ∧ Below W.heap.size W w' := by
  have := get_any p k _ _ _ W hp hr (by omega) (by omega)
  rw [hg] at this
  exact this
theorem overL_any (ks : List ByteArray) (ka kc va vn vc da dn dc) (kn : Nat) (W : World) (hp : PgAt W (leafM ks) (.slice ka kn kc) (.slice va vn vc) (.slice da dn dc)) :
    Calls Try.prog 30 #[pgv (leafM ks) (.slice ka kn kc) (.slice va vn vc) (.slice da dn dc)] W fun e w' => e = .returned (.bool (decide (6 < (kn : Int)))) ∧ Below W.heap.size W w' := by
  obtain ⟨rfl, rfl, rfl⟩ := PIn.len hp
  have := over_any (leafM ks) ka kc va vc da dc W
  have e : overP (leafM ks) = decide (6 < (((leafM ks).keys.length : Nat) : Int)) := by
    unfold overP
    rw [if_pos (by simp [leafM])]
    rw [Bool.eq_iff_iff]
    simp only [decide_eq_true_eq]
    omega
  rw [e] at this
  exact this
theorem underL_any (ks : List ByteArray) (ka kc va vn vc da dn dc) (kn : Nat) (W : World) (hp : PgAt W (leafM ks) (.slice ka kn kc) (.slice va vn vc) (.slice da dn dc)) :
    Calls Try.prog 31 #[pgv (leafM ks) (.slice ka kn kc) (.slice va vn vc) (.slice da dn dc)] W fun e w' => e = .returned (.bool (decide ((kn : Int) < 3))) ∧ Below W.heap.size W w' := by
  obtain ⟨rfl, rfl, rfl⟩ := PIn.len hp
  have := under_any (leafM ks) ka kc va vc da dc W
  have e : underP (leafM ks) = decide ((((leafM ks).keys.length : Nat) : Int) < 3) := by
    unfold underP
    rw [if_pos (by simp [leafM])]
    rw [Bool.eq_iff_iff]
    simp only [decide_eq_true_eq]
    omega
  rw [e] at this
  exact this
end Go.Proofs.Ytmjekecalghhdaa

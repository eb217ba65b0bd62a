/- net: letters on their way in memory; bytes.Clone, Len, has. Own lemmas, no statement. -/
import Derived.Test.YtcemecclpofhbaaSrcSeg
import Derived.WalkKit
import Derived.Lib.SliceRun
import Derived.Deep.Cut
import Derived.Deep.CutRange
import Derived.Deep.CutBlock
import Derived.Test.YtcemecclpofhbaaHash
set_option linter.unusedSimpArgs false
set_option linter.unusedVariables false
namespace Go.Proofs.Ytcemecclpofhbaa
open Go.ChangeShapes Go.WideShapes Go.ChangeAt Go.RowKit

theorem ext_trans {w a b : World} (h : Below w.heap.size w a) (k : Below a.heap.size a b) : Below w.heap.size w b := h.trans (k.mono h.size)
theorem below_allocR {W : World} (o : Obj) : Below W.heap.size W (W.alloc o) := (Below.refl _ _).alloc (Nat.le_refl _) _
theorem Own.any {w : World} {B : Nat} {v : Value} {l : List UInt8} (h : Own w B v l) : ∃ a c, v = .slice a l.length c := by
  obtain ⟨a, c, e, _⟩ := h.src
  exact ⟨a, c, e⟩

set_option maxHeartbeats 1000000 in
theorem clone_any (ao : Option Addr) (n c : Nat) (l : List UInt8) (w : World) (hs : Src w (.slice ao n c) l) (hl : l.length ≤ 1000000) :
    Calls Try.prog 14 #[.slice ao n c] w fun e w' => ∃ a' c', e = .returned (.slice a' l.length c') ∧ Own w' w.heap.size (.slice a' l.length c') l ∧ Below w.heap.size w w' := by
  have HS : Hid (Src w (.slice ao n c) l) := hs
  have HL : Hid (l.length ≤ 1000000) := hl
  cases ao with
  | none =>
    obtain ⟨rfl, h1, h2, h3⟩ := hs.at
    obtain ⟨rfl, rfl⟩ := h3.1 rfl
    clear hs hl h1 h2 h3
    have hnil : (binOp .eql 28 (.slice none 0 0) (.slice none 0 0)).run Try.prog w = .ok (.bool true) w := Lib.run_eql_slice_nil _ 28 5 _ _ _ _ _ Try.underlying28
    go_enter Try.func14, Try.ntmps14
    go_wp2
    go_ret
    exact ⟨none, 0, rfl, Own.nil _ _, Below.refl _ _⟩
  | some ad =>
    clear hs hl
    have HO : Hid (Own (w.alloc (.cells #[] 5)) w.heap.size (.slice (some ⟨w.heap.size, 0, none⟩) 0 0) []) := World.ownsRow_made w #[] 0 (Nat.le_refl _) (Nat.zero_le _) rfl
    have HS3 : Hid (Src (w.alloc (.cells #[] 5)) (.slice (some ad) n c) l) := HS.out.below (below_allocR _)
    have HSZ : Hid (w.heap.size ≤ (w.alloc (.cells #[] 5)).heap.size) := by show _ ≤ _; simp
    have HXA : Hid (Below w.heap.size w (w.alloc (.cells #[] 5))) := below_allocR _
    have hnil : (binOp .eql 28 (.slice (some ad) n c) (.slice none 0 0)).run Try.prog w = .ok (.bool false) w := Lib.run_eql_slice_nil _ 28 5 _ _ _ _ _ Try.underlying28
    go_enter Try.func14, Try.ntmps14
    go_wp2_with (at_builtin; refine wpList_join (w.alloc (.cells #[] 5)) rfl _ _ rfl w.heap.size _ [] l HO.out rfl _ HS3.out rfl (by have := HL.out; simp; omega) HSZ.out ?_)
    intro v4 w4 ho hg _
    have ho2 : Own w4 w.heap.size v4 l := ho
    obtain ⟨a4, c4, rfl⟩ := ho2.any
    have HO4 : Hid (Own w4 w.heap.size (.slice a4 l.length c4) l) := ho2
    have HY : Hid (Below w.heap.size w w4) := HXA.out.grown hg HSZ.out (fun k hk => by cases hk; exact Nat.le_refl _)
    clear ho ho2 hg HO HS3 HSZ HXA
    go_wp2
    go_ret
    exact ⟨a4, c4, rfl, HO4.out, HY.out⟩

/-- A letter as it lies in a row, with its bytes. -/
structure LetV where
  dst : Int
  a : Option Addr
  n : Nat
  c : Nat
  bs : List UInt8
def LetV.cs (x : LetV) : List Value := [.int .i64 x.dst, .slice x.a x.n x.c]
def LetV.v (x : LetV) : Value := .slice x.a x.n x.c
def LetV.q (x : LetV) : Int × List UInt8 := (x.dst, x.bs)
theorem LetV.cs_len (x : LetV) : x.cs.length = 2 := rfl
/-- The blocks that letters' bytes lie in: all unlike. -/
def Apart (ls : List LetV) : Prop := ls.Pairwise fun x y => ∀ b, x.v.ownBlock = some b → y.v.ownBlock ≠ some b
/-- The blocks of a net. -/
def FP (p : Nat) (v : Value) (ls : List LetV) (i : Nat) : Prop := i = p ∨ v.ownBlock = some i ∨ ∃ x ∈ ls, x.v.ownBlock = some i
/-- A net in memory: its block p, its row v. -/
structure NetI (W : World) (B p : Nat) (v : Value) (ls : List LetV) : Prop where
  blk : Blk W p #[v] 27
  base : B ≤ p
  own : W.ownsRow B 34 2 v ls.length (ls.map LetV.cs).flatten
  el : ∀ x ∈ ls, Own W B x.v x.bs ∧ x.bs.length ≤ 200 ∧ (0 ≤ x.dst ∧ x.dst < 64)
  apart : Apart ls
  len : ls.length ≤ 2000
theorem flat_len (ls : List LetV) : (ls.map LetV.cs).flatten.length = ls.length * 2 := by
  induction ls with
  | nil => rfl
  | cons x t ih => simp only [List.map_cons, List.flatten_cons, List.length_append, ih, LetV.cs_len, List.length_cons]; omega
section
variable {W W' : World} {B p : Nat} {v : Value} {ls : List LetV}
theorem owns_kept {T : TypeId} {k n : Nat} {v : Value} {us : List Value} (h : W.ownsRow B T k v n us) (hb : ∀ g, v.ownBlock = some g → W'.heap[g]? = W.heap[g]?) : W'.ownsRow B T k v n us := by
  refine ⟨h.1, ?_⟩
  rcases h.2 with hn | ⟨g, cap, cur, rfl, hbg, hgg, rest⟩
  · exact .inl hn
  · exact .inr ⟨g, cap, cur, rfl, hbg, by rw [hb g rfl]; exact hgg, rest⟩
theorem NetI.fp_lt (h : NetI W B p v ls) {i : Nat} (hi : FP p v ls i) : B ≤ i ∧ i < W.heap.size := by
  rcases hi with rfl | hi | ⟨x, hx, hi⟩
  · exact ⟨h.base, h.blk.lt⟩
  · exact h.own.lt i hi
  · exact World.ownsRow.lt (h.el x hx).1 i hi
theorem NetI.keep (h : NetI W B p v ls) (hk : ∀ i, FP p v ls i → W'.heap[i]? = W.heap[i]?) : NetI W' B p v ls :=
  ⟨h.blk.of (hk p (.inl rfl)), h.base, owns_kept h.own fun g hg => hk g (.inr (.inl hg)), fun x hx => ⟨owns_kept (h.el x hx).1 fun g hg => hk g (.inr (.inr ⟨x, hx, hg⟩)), (h.el x hx).2⟩, h.apart, h.len⟩
theorem NetI.below (h : NetI W B p v ls) (hb : Below W.heap.size W W') : NetI W' B p v ls := h.keep fun i hi => hb.block i (h.fp_lt hi).2
theorem NetI.chg {S : Nat → Prop} (h : NetI W B p v ls) (k : Chg S W W') (hn : ∀ i, FP p v ls i → ¬ S i) : NetI W' B p v ls := h.keep fun i hi => k.block i (h.fp_lt hi).2 (hn i hi)
theorem NetI.form (h : NetI W B p v ls) : ∃ a c, v = .slice a ls.length c ∧ ls.length ≤ c ∧ c ≤ maxLen ∧ (a = none → ls = []) ∧ (∀ ad, a = some ad → ∃ g, ad = ⟨g, 0, none⟩) := by
  rcases h.own.2 with ⟨rfl, h0⟩ | ⟨g, cap, cur, rfl, _, _, h1, h2, _⟩
  · have := List.eq_nil_of_length_eq_zero h0
    subst this
    exact ⟨none, 0, rfl, Nat.le_refl _, Nat.zero_le _, (fun _ => rfl), (fun _ e => by cases e)⟩
  · exact ⟨some ⟨g, 0, none⟩, cap, rfl, h1, h2, (fun e => by cases e), (fun ad e => by cases e; exact ⟨g, rfl⟩)⟩
theorem flat_at : ∀ {ls : List LetV} {i : Nat} (h : i < ls.length), (ls.map LetV.cs).flatten[i * 2]? = some (.int .i64 ls[i].dst) ∧ (ls.map LetV.cs).flatten[i * 2 + 1]? = some ls[i].v
  | x :: t, 0, _ => by simp [LetV.cs, LetV.v]
  | x :: t, i + 1, h => by
    have := flat_at (ls := t) (i := i) (by simpa using h)
    simp only [List.map_cons, List.flatten_cons, List.getElem_cons_succ]
    rw [List.getElem?_append_right (by rw [LetV.cs_len]; omega), List.getElem?_append_right (by rw [LetV.cs_len]; omega), LetV.cs_len, show (i + 1) * 2 - 2 = i * 2 by omega, show (i + 1) * 2 + 1 - 2 = i * 2 + 1 by omega]
    exact this
/-- The i-th letter's cells. -/
theorem NetI.cell {g n c : Nat} (h : NetI W B p (.slice (some ⟨g, 0, none⟩) n c) ls) {i : Nat} (hi : i < ls.length) : W.cell? ⟨g, i * 2, none⟩ = some (.int .i64 ls[i].dst) ∧ W.cell? ⟨g, i * 2 + 1, none⟩ = some (.slice ls[i].a ls[i].n ls[i].c) := by
  obtain ⟨h1, h2⟩ := flat_at hi
  have e : ∀ j, (⟨g, 0, none⟩ : Addr).add j = ⟨g, j, none⟩ := fun j => by by_cases h0 : j = 0 <;> simp [Addr.add, h0]
  have a1 := h.own.cells rfl _ _ h1
  have a2 := h.own.cells rfl _ _ h2
  rw [e] at a1 a2
  exact ⟨a1, a2⟩
end
set_option maxHeartbeats 1000000 in
theorem len_any (B p : Nat) (v : Value) (ls : List LetV) (w : World) (h : NetI w B p v ls) : Calls Try.prog 13 #[.pointer (some ⟨p, 0, none⟩)] w fun e w' => e = .returned (.int .i64 (ls.length : Int)) ∧ w' = w := by
  obtain ⟨a, c, rfl, _⟩ := h.form
  have c0 : w.cell? ⟨p, 0, none⟩ = some (.slice a ls.length c) := h.blk.cell 0
  clear h
  go_enter Try.func13, Try.ntmps13
  go_wp2
  go_ret
  exact ⟨rfl, rfl⟩
def inB (at_ : Int) (n : Nat) : Bool := decide (0 ≤ at_ ∧ at_ < n)
set_option maxHeartbeats 1000000 in
theorem has_any (B p : Nat) (v : Value) (ls : List LetV) (at_ : Int) (w : World) (h : NetI w B p v ls) : Calls Try.prog 15 #[.pointer (some ⟨p, 0, none⟩), .int .i64 at_] w fun e w' => e = .returned (.bool (inB at_ ls.length)) ∧ w' = w := by
  have HX : Hid (Calls _ _ _ _ _) := len_any B p v ls w h
  clear h
  unfold inB
  generalize ls.length = n at *
  go_enter Try.func15, Try.ntmps15
  by_cases h0 : 0 ≤ at_
  · go_wp2_with fail
    refine HX.out.mono ?_
    rintro e w1 ⟨rfl, hw⟩
    subst hw
    clear HX
    go_wp2
    go_ret
    exact ⟨ret_bool (by simp [h0]), rfl⟩
  · go_wp2
    go_ret
    exact ⟨ret_bool (by rw [decide_eq_false (p := 0 ≤ at_) (by omega)]; rfl), rfl⟩
end Go.Proofs.Ytcemecclpofhbaa

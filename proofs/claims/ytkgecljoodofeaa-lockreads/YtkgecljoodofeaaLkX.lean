/- lock: slices.Clone of a row of wants. Own lemmas, no statement. -/
import Derived.Test.YtkgecljoodofeaaLkF
set_option linter.unusedSimpArgs false
set_option linter.unusedVariables false
namespace Go.Proofs.Ytkgecljoodofeaa
open Go.ChangeShapes Go.WideShapes Go.ChangeAt Go.RowKit

set_option maxHeartbeats 2000000 in
theorem cloneW_any (v : Value) (ls : List Wn) (w : World) (hs : RowW w v ls) (hl : ls.length ≤ 10000) :
    Calls Try.prog 37 #[v] w fun e w' => ∃ v', e = .returned v' ∧ OwnW w' w.heap.size v' ls ∧ Ext w w' := by
  have HS : Hid (RowW w v ls) := hs
  have HL : Hid (ls.length ≤ 10000) := hl
  rcases hs.form with ⟨rfl, rfl⟩ | ⟨ad, c, rfl, h1, h2, _⟩
  · clear hs hl
    have hnil : (binOp .eql 35 (.slice none 0 0) (.slice none 0 0)).run Try.prog w = .ok (.bool true) w := Lib.run_eql_slice_nil _ 35 55 _ _ _ _ _ Try.underlying35
    go_enter Try.func37, Try.ntmps37
    go_wp2
    go_ret
    exact ⟨_, rfl, OwnW.nil _ _, Ext.refl _⟩
  · have hnil : (binOp .eql 35 (.slice (some ad) ls.length c) (.slice none 0 0)).run Try.prog w = .ok (.bool false) w := Lib.run_eql_slice_nil _ 35 55 _ _ _ _ _ Try.underlying35
    obtain ⟨n, hn⟩ : ∃ n, ls.length = n := ⟨_, rfl⟩
    have HO : Hid (OwnW (w.alloc (.cells #[] 55)) w.heap.size (.slice (some ⟨w.heap.size, 0, none⟩) 0 0) []) := World.ownsRow_made w #[] 0 (Nat.le_refl _) (Nat.zero_le _) rfl
    have HE1 : Hid (Ext w (w.alloc (.cells #[] 55))) := Below.alloc (Below.refl _ _) (Nat.le_refl _) _
    have HS3 : Hid (RowW (w.alloc (.cells #[] 55)) (.slice (some ad) ls.length c) ls) := HS.out.below HE1.out
    have HSZ : Hid (w.heap.size ≤ (w.alloc (.cells #[] 55)).heap.size) := by show _ ≤ _; simp
    rw [hn] at hnil HS3 ⊢
    clear hs hl hn h1 h2 HS
    go_enter Try.func37, Try.ntmps37
    go_wp2_with (at_builtin; refine wpList_joinW (w.alloc (.cells #[] 55)) rfl _ _ rfl w.heap.size _ _ [] ls HO.out rfl HS3.out rfl (by have := HL.out; simp; omega) HSZ.out ?_)
    intro v4 w4 ho hg _
    have HO4 : Hid (OwnW w4 w.heap.size v4 ls) := ho
    have HY : Hid (Ext w w4) := Below.grown HE1.out hg HSZ.out (fun k hk => by cases hk; exact Nat.le_refl _)
    clear ho hg HO HS3 HSZ HE1
    go_wp2
    go_ret
    exact ⟨_, rfl, HO4.out, HY.out⟩
end Go.Proofs.Ytkgecljoodofeaa

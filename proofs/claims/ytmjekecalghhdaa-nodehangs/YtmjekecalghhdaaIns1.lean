/- slices.Insert and slices.Delete, as the library's contracts have them, at this program. Own text, no statement. -/
import Derived.Shelf.Spec.SlicesInsert
import Derived.Shelf.Spec.SlicesInsertGrow
import Derived.Shelf.Slices.Delete
import Derived.Test.YtmjekecalghhdaaNd1
namespace Go.Proofs.Ytmjekecalghhdaa
open Go.RowKit

def sRen : Go.Shelf.Ren := ⟨fun | 17 => 91 | 21 => 69 | 22 => 64 | 23 => 71 | 24 => 65 | 27 => 84 | 28 => 85 | 29 => 82 | 30 => 83 | 35 => 90 | 36 => 89 | 39 => 92 | n => n, fun | 0 => 0 | 3 => 3 | 4 => 4 | 9 => 9 | 12 => 12 | 22 => 23 | 24 => 22 | 62 => 118 | n => n, fun n => n⟩
theorem laysIS : Lays2.n22 Try.prog sRen := {
  mixed := by kernel_rfl
  f17 := by kernel_rfl
  f22 := by kernel_rfl
  f29 := by kernel_rfl
  f30 := by kernel_rfl
  f36 := by kernel_rfl
  t0 := by kernel_rfl
  a0 := by intro w; kernel_rfl
  z0 := by intro w; kernel_rfl
  v0 := by intro w; kernel_rfl
  t3 := by kernel_rfl
  a3 := by intro w; kernel_rfl
  z3 := by intro w; kernel_rfl
  v3 := by intro w; kernel_rfl
  t4 := by kernel_rfl
  a4 := by intro w; kernel_rfl
  z4 := by intro w; kernel_rfl
  v4 := by intro w; kernel_rfl
  t9 := by kernel_rfl
  a9 := by intro w; kernel_rfl
  z9 := by intro w; kernel_rfl
  v9 := by intro w; kernel_rfl
  t24 := by kernel_rfl
  a24 := by intro w; kernel_rfl
  z24 := by intro w; kernel_rfl
  v24 := by intro w; kernel_rfl
  i9 := by kernel_rfl }
theorem laysII : Lays2.n21 Try.prog sRen := {
  mixed := by kernel_rfl
  f21 := by kernel_rfl
  f27 := by kernel_rfl
  f28 := by kernel_rfl
  f35 := by kernel_rfl
  f39 := by kernel_rfl
  t0 := by kernel_rfl
  a0 := by intro w; kernel_rfl
  z0 := by intro w; kernel_rfl
  v0 := by intro w; kernel_rfl
  t3 := by kernel_rfl
  a3 := by intro w; kernel_rfl
  z3 := by intro w; kernel_rfl
  v3 := by intro w; kernel_rfl
  t4 := by kernel_rfl
  a4 := by intro w; kernel_rfl
  z4 := by intro w; kernel_rfl
  v4 := by intro w; kernel_rfl
  t22 := by kernel_rfl
  a22 := by intro w; kernel_rfl
  z22 := by intro w; kernel_rfl
  v22 := by intro w; kernel_rfl
  i3 := by kernel_rfl }
theorem laysDS : Lays2.n24 Try.prog sRen := {
  mixed := by kernel_rfl
  f24 := by kernel_rfl
  t0 := by kernel_rfl
  a0 := by intro w; kernel_rfl
  z0 := by intro w; kernel_rfl
  v0 := by intro w; kernel_rfl
  t3 := by kernel_rfl
  a3 := by intro w; kernel_rfl
  z3 := by intro w; kernel_rfl
  v3 := by intro w; kernel_rfl
  t4 := by kernel_rfl
  a4 := by intro w; kernel_rfl
  z4 := by intro w; kernel_rfl
  v4 := by intro w; kernel_rfl
  t9 := by kernel_rfl
  a9 := by intro w; kernel_rfl
  z9 := by intro w; kernel_rfl
  v9 := by intro w; kernel_rfl
  t24 := by kernel_rfl
  a24 := by intro w; kernel_rfl
  z24 := by intro w; kernel_rfl
  v24 := by intro w; kernel_rfl
  i9 := by kernel_rfl }
theorem laysDI : Lays2.n23 Try.prog sRen := {
  mixed := by kernel_rfl
  f23 := by kernel_rfl
  t0 := by kernel_rfl
  a0 := by intro w; kernel_rfl
  z0 := by intro w; kernel_rfl
  v0 := by intro w; kernel_rfl
  t3 := by kernel_rfl
  a3 := by intro w; kernel_rfl
  z3 := by intro w; kernel_rfl
  v3 := by intro w; kernel_rfl
  t4 := by kernel_rfl
  a4 := by intro w; kernel_rfl
  z4 := by intro w; kernel_rfl
  v4 := by intro w; kernel_rfl
  t22 := by kernel_rfl
  a22 := by intro w; kernel_rfl
  z22 := by intro w; kernel_rfl
  v22 := by intro w; kernel_rfl
  i3 := by kernel_rfl }

/-- Cells laid one behind the other in a block. -/
theorem Blk.setCells {b : Nat} {T : TypeId} : ∀ (vs : List Value) (o : Nat) {w : World} {c : Array Value}, Blk w b c T → o + vs.length ≤ c.size → Blk (w.setCells b o vs) b (c.toList.take o ++ vs ++ c.toList.drop (o + vs.length)).toArray T
  | [], o, w, c, h, _ => by
    show Blk w b _ T
    have e : (c.toList.take o ++ [] ++ c.toList.drop (o + ([] : List Value).length)).toArray = c := by simp
    rw [e]
    exact h
  | v :: vs, o, w, c, h, hl => by
    have hl' : o + (vs.length + 1) ≤ c.size := hl
    have := Blk.setCells vs (o + 1) (h.set o v) (by simp; omega)
    show Blk ((w.setCell ⟨b, o, none⟩ v).setCells b (o + 1) vs) b _ T
    have e : ((c.setIfInBounds o v).toList.take (o + 1) ++ vs ++ (c.setIfInBounds o v).toList.drop (o + 1 + vs.length)).toArray = (c.toList.take o ++ (v :: vs) ++ c.toList.drop (o + (v :: vs).length)).toArray := by
      congr 1
      have ho : o < c.toList.length := by simp; omega
      rw [Array.toList_setIfInBounds, List.take_set, List.drop_set_of_lt (by omega)]
      rw [show o + (v :: vs).length = o + 1 + vs.length by simp; omega]
      have hm : (c.toList.take o).length = o := by rw [List.length_take]; omega
      have hset : (c.toList.take o ++ [c.toList[o]]).set o v = c.toList.take o ++ [v] := by
        rw [List.set_append, if_neg (by omega), hm, Nat.sub_self]
        rfl
      rw [List.take_succ_eq_append_getElem ho, hset]
      simp
    rw [e] at this
    exact this
end Go.Proofs.Ytmjekecalghhdaa

/- NetRuns: the frame of its first loop, what is kept from round to round. Own lemmas, no statement. -/
import Derived.Test.YtcemecclpofhbaaNRun1
import Derived.Deep.CutBlock
set_option linter.unusedSimpArgs false
set_option linter.unusedVariables false
namespace Go.Proofs.Ytcemecclpofhbaa
open Go.ChangeShapes Go.WideShapes Go.ChangeAt Go.RowKit

theorem cell_on16 {w : World} {a : Addr} {i j : Nat} {v : Value} (hj : 0 < j) (h : w.cell? (a.add (i + j)) = some v) : w.cell? ⟨(a.add i).block, (a.add i).off + j, none⟩ = some v := by
  unfold Addr.add at h ⊢
  rw [if_neg (by omega)] at h
  split
  · rename_i h0; subst h0; simpa using h
  · simpa [Nat.add_assoc] using h
theorem in3 (i : Int) (n : Nat) : decide (0 ≤ i) = false ∨ (decide (0 ≤ i) = true ∧ decide (i < (n : Int)) = false) ∨ (decide (0 ≤ i) = true ∧ decide (i < (n : Int)) = true) := by
  by_cases h1 : 0 ≤ i <;> by_cases h2 : i < (n : Int) <;> simp [h1, h2]
/-- The body of a text's first loop. -/
def firstLoop : Code → Option Code
  | .loop c => some c
  | .seq a b => match firstLoop a with
    | some c => some c
    | none => firstLoop b
  | .block _ c => firstLoop c
  | .scope c => firstLoop c
  | .cond _ a b => match firstLoop a with
    | some c => some c
    | none => firstLoop b
  | _ => none
def bodyOf (f : Func) : Code := ((f.body.bind firstLoop).getD .skip)
theorem arr_all (a : Array Value) (n : Nat) (h : a.size = n) : a = ((List.range n).map fun i => a.getD i undef).toArray := by
  subst h
  apply Array.ext
  · simp
  · intro i h1 h2
    simp [Array.getD, h1]
set_option maxRecDepth 100000 in
def fr (T : Nat → Value) (v0 v2 v3 v4 v5 : Value) : Array Value := #[v0, T 1, v2, v3, v4, v5, T 6, T 7, T 8, T 9, T 10, T 11, T 12, T 13, T 14, T 15, T 16, T 17, T 18, T 19, T 20, T 21, T 22, T 23, T 24, T 25, T 26, T 27, T 28, T 29, T 30, T 31, T 32, T 33, T 34, T 35, T 36, T 37, T 38, T 39, T 40, T 41, T 42, T 43, T 44, T 45, T 46, T 47, T 48, T 49, T 50, T 51, T 52, T 53, T 54, T 55, T 56, T 57, T 58, T 59, T 60, T 61, T 62, T 63, T 64, T 65, T 66, T 67, T 68, T 69, T 70, T 71, T 72, T 73, T 74, T 75, T 76, T 77, T 78, T 79, T 80, T 81, T 82, T 83, T 84, T 85, T 86, T 87, T 88, T 89, T 90, T 91, T 92, T 93, T 94, T 95, T 96, T 97, T 98, T 99, T 100, T 101, T 102, T 103, T 104, T 105, T 106, T 107, T 108, T 109, T 110, T 111, T 112, T 113, T 114, T 115, T 116, T 117, T 118, T 119, T 120, T 121, T 122, T 123, T 124, T 125, T 126, T 127, T 128, T 129, T 130, T 131, T 132, T 133, T 134, T 135, T 136, T 137, T 138, T 139, T 140, T 141, T 142, T 143, T 144, T 145, T 146, T 147, T 148, T 149, T 150, T 151, T 152, T 153, T 154, T 155, T 156, T 157, T 158, T 159, T 160, T 161, T 162, T 163, T 164, T 165, T 166, T 167, T 168, T 169, T 170, T 171, T 172, T 173, T 174, T 175, T 176, T 177, T 178, T 179, T 180, T 181, T 182, T 183, T 184, T 185, T 186, T 187, T 188, T 189, T 190, T 191, T 192, T 193, T 194, T 195, T 196, T 197, T 198, T 199, T 200, T 201, T 202, T 203, T 204, T 205, T 206, T 207, T 208, T 209, T 210, T 211, T 212, T 213, T 214, T 215, T 216, T 217, T 218, T 219, T 220, T 221, T 222, T 223, T 224, T 225, T 226, T 227, T 228, T 229, T 230, T 231, T 232, T 233, T 234, T 235, T 236, T 237, T 238, T 239, T 240, T 241, T 242, T 243, T 244, T 245, T 246, T 247, T 248, T 249, T 250, T 251, T 252, T 253, T 254, T 255, T 256, T 257, T 258, T 259, T 260, T 261, T 262, T 263, T 264, T 265, T 266, T 267, T 268, T 269, T 270, T 271, T 272, T 273, T 274, T 275, T 276, T 277, T 278, T 279, T 280, T 281, T 282, T 283, T 284, T 285, T 286, T 287, T 288, T 289, T 290, T 291, T 292, T 293, T 294, T 295, T 296, T 297, T 298, T 299, T 300, T 301, T 302, T 303, T 304, T 305, T 306, T 307, T 308, T 309, T 310, T 311, T 312, T 313, T 314, T 315, T 316, T 317, T 318, T 319, T 320, T 321, T 322, T 323, T 324]
set_option maxRecDepth 100000 in
theorem fr_all (T : Nat → Value) : fr T (T 0) (T 2) (T 3) (T 4) (T 5) = ((List.range 325).map T).toArray := by rfl
def frS (a : Act) (v0 v2 v3 v4 v5 : Value) : Prop :=
  a.tmps.size = 325 ∧ a.defers = [] ∧ a.tmps.getD 0 undef = v0 ∧ a.tmps.getD 2 undef = v2 ∧ a.tmps.getD 3 undef = v3 ∧ a.tmps.getD 4 undef = v4 ∧ a.tmps.getD 5 undef = v5
theorem frS.lit {a : Act} {v0 v2 v3 v4 v5 : Value} (h : frS a v0 v2 v3 v4 v5) : a = ⟨fr (fun i => a.tmps.getD i undef) v0 v2 v3 v4 v5, []⟩ := by
  obtain ⟨hs, hd, rfl, rfl, rfl, rfl, rfl⟩ := h
  have e := arr_all a.tmps 325 hs
  have e2 := fr_all (fun i => a.tmps.getD i undef)
  rw [← e] at e2
  obtain ⟨t, d⟩ := a
  simp only at hd e2 ⊢
  subst hd
  rw [e2]
/-- A net and the law's row, letter by letter alike. -/
structure RunA (w : World) (p n : Nat) (v : Value) (ua : Option Addr) (uc : Nat) (ls us : List LetV) (wx : World) : Prop where
  x : RunX wx p p v ls (.slice ua n uc) us
  q : ls.map LetV.q = us.map LetV.q
  len : us.length = n
  below : Below w.heap.size w wx
theorem RunA.ln {w : World} {p n : Nat} {v : Value} {ua : Option Addr} {uc : Nat} {ls us : List LetV} {wx : World} (h : RunA w p n v ua uc ls us wx) : ls.length = n := by
  have := congrArg List.length h.q
  simpa [h.len] using this
theorem RunA.uc {w : World} {p n : Nat} {v : Value} {ua : Option Addr} {uc : Nat} {ls us : List LetV} {wx : World} (h : RunA w p n v ua uc ls us wx) : n ≤ uc ∧ uc ≤ 9223372036854775807 := by
  obtain ⟨_, _, e, h2, h3, _⟩ := h.x.own.form
  simp only [Value.slice.injEq] at e
  unfold maxLen at h3
  obtain ⟨_, h4, h5⟩ := e
  subst h5
  omega
theorem RunA.go {w : World} {p n : Nat} {v : Value} {ua : Option Addr} {uc : Nat} {ls us : List LetV} {wx wy : World} (h : RunA w p n v ua uc ls us wx) (hb : Below wx.heap.size wx wy) : RunA w p n v ua uc ls us wy :=
  ⟨h.x.below hb, h.q, h.len, ext_trans h.below hb⟩
/-- What is kept from round to round. -/
def RI (w : World) (p : Nat) (ad : Option Addr) (len cap : Nat) (a : Act) (wx : World) : Prop :=
  ∃ (k n : Nat) (v : Value) (ua : Option Addr) (uc : Nat) (ls us : List LetV), frS a (.slice ad len cap) (.bool false) (.pointer (some ⟨p, 0, none⟩)) (.slice ua n uc) (.int .i64 (k : Int)) ∧ k ≤ 60 ∧ k ≤ len ∧ n ≤ k ∧ w.heap.size ≤ p ∧ RunA w p n v ua uc ls us wx
def Rmu (a : Act) (_ : World) : Nat := 60 - (intOf (a.tmps.getD 5 undef)).toNat
/-- The round's goal. -/
abbrev Goal (w : World) (p : Nat) (ad : Addr) (len cap k n : Nat) (ua : Option Addr) (uc : Nat) (T : Nat → Value) (Q : Exit → Act → World → Prop) (wr : World) : Prop :=
  Code.wp Try.prog (bodyOf Try.f3) (Exit.then (fun a' w' => RI w p (some ad) len cap a' w' ∧ Rmu a' w' < 60 - k) Q) ⟨fr T (.slice (some ad) len cap) (.bool false) (.pointer (some ⟨p, 0, none⟩)) (.slice ua n uc) (.int .i64 (k : Int)), []⟩ wr
end Go.Proofs.Ytcemecclpofhbaa

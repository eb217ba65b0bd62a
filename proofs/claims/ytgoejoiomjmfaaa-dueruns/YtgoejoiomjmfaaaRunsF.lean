/- DueRuns: the frames of its loops. Own lemmas, no statement. -/
import Derived.Test.YtgoejoiomjmfaaaRunsQ
namespace Go.Proofs.Ytgoejoiomjmfaaa
open Go.ChangeShapes Go.WideShapes Go.ChangeAt Go.RowKit
/-- The body of a text's first loop. -/
def firstLoop : Code → Option Code
  | .loop c => some c
  | .seq a b => match firstLoop a with
    | some c => some c
    | none => firstLoop b
  | .block _ c => firstLoop c
  | .scope c => firstLoop c
  | .cond _ a b => match firstLoop a with
    | some c => some c
    | none => firstLoop b
  | _ => none
def bodyOf (f : Func) : Code := ((f.body.bind firstLoop).getD .skip)
def firstOf (c : Code) : Code := ((firstLoop c).getD .skip)
theorem arr_all (a : Array Value) (n : Nat) (h : a.size = n) : a = ((List.range n).map fun i => a.getD i undef).toArray := by
  subst h
  apply Array.ext
  · simp
  · intro i h1 h2
    simp [Array.getD, h1]
set_option maxRecDepth 100000 in
def fr (T : Nat → Value) (v0 v2 v3 v4 v5 : Value) : Array Value := #[v0, T 1, v2, v3, v4, v5, T 6, T 7, T 8, T 9, T 10, T 11, T 12, T 13, T 14, T 15, T 16, T 17, T 18, T 19, T 20, T 21, T 22, T 23, T 24, T 25, T 26, T 27, T 28, T 29, T 30, T 31, T 32, T 33, T 34, T 35, T 36, T 37, T 38, T 39, T 40, T 41, T 42, T 43, T 44, T 45, T 46, T 47, T 48, T 49, T 50, T 51, T 52, T 53, T 54, T 55, T 56, T 57, T 58, T 59, T 60, T 61, T 62, T 63, T 64, T 65, T 66, T 67, T 68, T 69, T 70, T 71, T 72, T 73, T 74, T 75, T 76, T 77, T 78, T 79, T 80, T 81, T 82, T 83, T 84, T 85, T 86, T 87, T 88, T 89, T 90, T 91, T 92, T 93, T 94, T 95, T 96, T 97, T 98, T 99, T 100, T 101, T 102, T 103, T 104, T 105, T 106, T 107, T 108, T 109, T 110, T 111, T 112, T 113, T 114, T 115, T 116, T 117, T 118, T 119, T 120, T 121, T 122, T 123, T 124, T 125, T 126, T 127, T 128, T 129, T 130, T 131, T 132, T 133, T 134, T 135, T 136, T 137, T 138, T 139, T 140, T 141, T 142, T 143, T 144, T 145, T 146, T 147, T 148, T 149, T 150, T 151, T 152, T 153, T 154, T 155, T 156, T 157, T 158, T 159, T 160, T 161, T 162, T 163, T 164, T 165, T 166, T 167, T 168, T 169, T 170, T 171, T 172, T 173, T 174, T 175, T 176, T 177, T 178, T 179, T 180, T 181, T 182, T 183, T 184, T 185, T 186, T 187, T 188, T 189, T 190, T 191, T 192, T 193, T 194, T 195, T 196, T 197, T 198, T 199, T 200, T 201, T 202, T 203, T 204, T 205, T 206, T 207, T 208, T 209, T 210, T 211, T 212, T 213, T 214, T 215, T 216, T 217, T 218, T 219]
set_option maxRecDepth 100000 in
theorem fr_all (T : Nat → Value) : fr T (T 0) (T 2) (T 3) (T 4) (T 5) = ((List.range 220).map T).toArray := by rfl
def frS (a : Act) (v0 v2 v3 v4 v5 : Value) : Prop :=
  a.tmps.size = 220 ∧ a.defers = [] ∧ a.tmps.getD 0 undef = v0 ∧ a.tmps.getD 2 undef = v2 ∧ a.tmps.getD 3 undef = v3 ∧ a.tmps.getD 4 undef = v4 ∧ a.tmps.getD 5 undef = v5
theorem frS.lit {a : Act} {v0 v2 v3 v4 v5 : Value} (h : frS a v0 v2 v3 v4 v5) : a = ⟨fr (fun i => a.tmps.getD i undef) v0 v2 v3 v4 v5, []⟩ := by
  obtain ⟨hs, hd, rfl, rfl, rfl, rfl, rfl⟩ := h
  have e := arr_all a.tmps 220 hs
  have e2 := fr_all (fun i => a.tmps.getD i undef)
  rw [← e] at e2
  obtain ⟨t, d⟩ := a
  simp only at hd e2 ⊢
  subst hd
  rw [e2]
set_option maxRecDepth 100000 in
def frF (T : Nat → Value) (v0 v2 v3 v4 v5 v6 v7 v35 v36 v37 : Value) : Array Value := #[v0, T 1, v2, v3, v4, v5, v6, v7, T 8, T 9, T 10, T 11, T 12, T 13, T 14, T 15, T 16, T 17, T 18, T 19, T 20, T 21, T 22, T 23, T 24, T 25, T 26, T 27, T 28, T 29, T 30, T 31, T 32, T 33, T 34, v35, v36, v37, T 38, T 39, T 40, T 41, T 42, T 43, T 44, T 45, T 46, T 47, T 48, T 49, T 50, T 51, T 52, T 53, T 54, T 55, T 56, T 57, T 58, T 59, T 60, T 61, T 62, T 63, T 64, T 65, T 66, T 67, T 68, T 69, T 70, T 71, T 72, T 73, T 74, T 75, T 76, T 77, T 78, T 79, T 80, T 81, T 82, T 83, T 84, T 85, T 86, T 87, T 88, T 89, T 90, T 91, T 92, T 93, T 94, T 95, T 96, T 97, T 98, T 99, T 100, T 101, T 102, T 103, T 104, T 105, T 106, T 107, T 108, T 109, T 110, T 111, T 112, T 113, T 114, T 115, T 116, T 117, T 118, T 119, T 120, T 121, T 122, T 123, T 124, T 125, T 126, T 127, T 128, T 129, T 130, T 131, T 132, T 133, T 134, T 135, T 136, T 137, T 138, T 139, T 140, T 141, T 142, T 143, T 144, T 145, T 146, T 147, T 148, T 149, T 150, T 151, T 152, T 153, T 154, T 155, T 156, T 157, T 158, T 159, T 160, T 161, T 162, T 163, T 164, T 165, T 166, T 167, T 168, T 169, T 170, T 171, T 172, T 173, T 174, T 175, T 176, T 177, T 178, T 179, T 180, T 181, T 182, T 183, T 184, T 185, T 186, T 187, T 188, T 189, T 190, T 191, T 192, T 193, T 194, T 195, T 196, T 197, T 198, T 199, T 200, T 201, T 202, T 203, T 204, T 205, T 206, T 207, T 208, T 209, T 210, T 211, T 212, T 213, T 214, T 215, T 216, T 217, T 218, T 219]
set_option maxRecDepth 100000 in
theorem frF_all (T : Nat → Value) : frF T (T 0) (T 2) (T 3) (T 4) (T 5) (T 6) (T 7) (T 35) (T 36) (T 37) = ((List.range 220).map T).toArray := by rfl
def frFS (a : Act) (v0 v2 v3 v4 v5 v6 v7 v35 v36 v37 : Value) : Prop :=
  a.tmps.size = 220 ∧ a.defers = [] ∧ a.tmps.getD 0 undef = v0 ∧ a.tmps.getD 2 undef = v2 ∧ a.tmps.getD 3 undef = v3 ∧ a.tmps.getD 4 undef = v4 ∧ a.tmps.getD 5 undef = v5 ∧ a.tmps.getD 6 undef = v6 ∧ a.tmps.getD 7 undef = v7 ∧ a.tmps.getD 35 undef = v35 ∧ a.tmps.getD 36 undef = v36 ∧ a.tmps.getD 37 undef = v37
theorem frFS.lit {a : Act} {v0 v2 v3 v4 v5 v6 v7 v35 v36 v37 : Value} (h : frFS a v0 v2 v3 v4 v5 v6 v7 v35 v36 v37) : a = ⟨frF (fun i => a.tmps.getD i undef) v0 v2 v3 v4 v5 v6 v7 v35 v36 v37, []⟩ := by
  obtain ⟨hs, hd, rfl, rfl, rfl, rfl, rfl, rfl, rfl, rfl, rfl, rfl⟩ := h
  have e := arr_all a.tmps 220 hs
  have e2 := frF_all (fun i => a.tmps.getD i undef)
  rw [← e] at e2
  obtain ⟨t, d⟩ := a
  simp only at hd e2 ⊢
  subst hd
  rw [e2]
set_option maxRecDepth 100000 in
def frB (T : Nat → Value) (v0 v2 v3 v4 v5 v6 v7 v12 v57 v146 v147 v148 : Value) : Array Value := #[v0, T 1, v2, v3, v4, v5, v6, v7, T 8, T 9, T 10, T 11, v12, T 13, T 14, T 15, T 16, T 17, T 18, T 19, T 20, T 21, T 22, T 23, T 24, T 25, T 26, T 27, T 28, T 29, T 30, T 31, T 32, T 33, T 34, T 35, T 36, T 37, T 38, T 39, T 40, T 41, T 42, T 43, T 44, T 45, T 46, T 47, T 48, T 49, T 50, T 51, T 52, T 53, T 54, T 55, T 56, v57, T 58, T 59, T 60, T 61, T 62, T 63, T 64, T 65, T 66, T 67, T 68, T 69, T 70, T 71, T 72, T 73, T 74, T 75, T 76, T 77, T 78, T 79, T 80, T 81, T 82, T 83, T 84, T 85, T 86, T 87, T 88, T 89, T 90, T 91, T 92, T 93, T 94, T 95, T 96, T 97, T 98, T 99, T 100, T 101, T 102, T 103, T 104, T 105, T 106, T 107, T 108, T 109, T 110, T 111, T 112, T 113, T 114, T 115, T 116, T 117, T 118, T 119, T 120, T 121, T 122, T 123, T 124, T 125, T 126, T 127, T 128, T 129, T 130, T 131, T 132, T 133, T 134, T 135, T 136, T 137, T 138, T 139, T 140, T 141, T 142, T 143, T 144, T 145, v146, v147, v148, T 149, T 150, T 151, T 152, T 153, T 154, T 155, T 156, T 157, T 158, T 159, T 160, T 161, T 162, T 163, T 164, T 165, T 166, T 167, T 168, T 169, T 170, T 171, T 172, T 173, T 174, T 175, T 176, T 177, T 178, T 179, T 180, T 181, T 182, T 183, T 184, T 185, T 186, T 187, T 188, T 189, T 190, T 191, T 192, T 193, T 194, T 195, T 196, T 197, T 198, T 199, T 200, T 201, T 202, T 203, T 204, T 205, T 206, T 207, T 208, T 209, T 210, T 211, T 212, T 213, T 214, T 215, T 216, T 217, T 218, T 219]
set_option maxRecDepth 100000 in
theorem frB_all (T : Nat → Value) : frB T (T 0) (T 2) (T 3) (T 4) (T 5) (T 6) (T 7) (T 12) (T 57) (T 146) (T 147) (T 148) = ((List.range 220).map T).toArray := by rfl
def frBS (a : Act) (v0 v2 v3 v4 v5 v6 v7 v12 v57 v146 v147 v148 : Value) : Prop :=
  a.tmps.size = 220 ∧ a.defers = [] ∧ a.tmps.getD 0 undef = v0 ∧ a.tmps.getD 2 undef = v2 ∧ a.tmps.getD 3 undef = v3 ∧ a.tmps.getD 4 undef = v4 ∧ a.tmps.getD 5 undef = v5 ∧ a.tmps.getD 6 undef = v6 ∧ a.tmps.getD 7 undef = v7 ∧ a.tmps.getD 12 undef = v12 ∧ a.tmps.getD 57 undef = v57 ∧ a.tmps.getD 146 undef = v146 ∧ a.tmps.getD 147 undef = v147 ∧ a.tmps.getD 148 undef = v148
theorem frBS.lit {a : Act} {v0 v2 v3 v4 v5 v6 v7 v12 v57 v146 v147 v148 : Value} (h : frBS a v0 v2 v3 v4 v5 v6 v7 v12 v57 v146 v147 v148) : a = ⟨frB (fun i => a.tmps.getD i undef) v0 v2 v3 v4 v5 v6 v7 v12 v57 v146 v147 v148, []⟩ := by
  obtain ⟨hs, hd, rfl, rfl, rfl, rfl, rfl, rfl, rfl, rfl, rfl, rfl, rfl, rfl⟩ := h
  have e := arr_all a.tmps 220 hs
  have e2 := frB_all (fun i => a.tmps.getD i undef)
  rw [← e] at e2
  obtain ⟨t, d⟩ := a
  simp only at hd e2 ⊢
  subst hd
  rw [e2]

/-- What is kept from round to round. -/
def RI (w0 : World) (B : Nat) (oa : Option Addr) (no co g : Nat) (a : Act) (w : World) : Prop :=
  ∃ (k cap : Nat) (x : Addr) (l : List Ent) (T : Key → Option Int), frS a (.slice oa no co) (.bool false) (.pointer (some ⟨g, 0, none⟩)) (.slice (some x) l.length cap) (.int .i64 (k : Int)) ∧ k ≤ 60 ∧ k ≤ no ∧ l.length ≤ k ∧ RunsAt w0 B w g k x cap l T
def Rmu (a : Act) (_ : World) : Nat := 60 - (intOf (a.tmps.getD 5 undef)).toNat
/-- .. while the thing is sought. -/
def FI (w1 : World) (v0 v3 v4 v5 v6 v35 v36 : Value) (l : List Ent) (q : Key) (a : Act) (w : World) : Prop :=
  ∃ (j : Nat) (at_ : Int), frFS a v0 (.bool false) v3 v4 v5 v6 (.int .i64 at_) v35 v36 (.int .i64 (j : Int)) ∧ j ≤ l.length ∧ Found l q j at_ ∧ Below w1.heap.size w1 w
def Fmu (n : Nat) (a : Act) (_ : World) : Nat := n - (intOf (a.tmps.getD 37 undef)).toNat
end Go.Proofs.Ytgoejoiomjmfaaa

/- rec: Encode, of any record. Own lemmas, no statement. -/
import Derived.Test.YthkmohcdgnldgaaGreatRecQ
import Derived.Test.YthkmohcdgnldgaaGreatSrcSeg
set_option linter.unusedSimpArgs false
set_option linter.unusedVariables false
namespace Go.Proofs.YthkmohcdgnldgaaGreat
open Go.ChangeShapes Go.WideShapes Go.ChangeAt Go.RowKit

/-- What Encode hands back, of any record. -/
def EncQ (x : RecV) (w : World) (e : Ending) (w' : World) : Prop :=
  ((rightRec x = true ∧ (recBytes x).length ≤ 16384 ∧ ∃ ao c, e = .returned (.tuple #[.slice ao (recBytes x).length c, .int .i64 0]) ∧ Src w' (.slice ao (recBytes x).length c) (recBytes x)) ∨
   (∃ er : Int, e = .returned (.tuple #[.slice none 0 0, .int .i64 er]) ∧ ((rightRec x = true ∧ 16384 < (recBytes x).length ∧ er = 3) ∨ (rightRec x = false ∧ er = 1)))) ∧ Below w.heap.size w w'
theorem encQ_any (x : RecV) (w : World) (h : x.At w) (hw : x.Wf) : Calls Tryz.prog 8 #[.agg #[.int .i64 x.kind, .int .u64 x.num, .int .i64 x.node, .string x.key, .bool x.was, .string x.old, .int .u64 x.prev, .slice x.na x.nn x.nc, .slice x.ra x.rn x.rc, .slice x.ga x.gn x.gc, .slice x.oa x.om x.oc, .slice x.da x.dn x.dc]] w (EncQ x w) := by
  cases hr : rightRec x with
  | false =>
    refine (recEncode_bad x w h hr).mono ?_
    rintro e w' ⟨rfl, y⟩
    exact ⟨.inr ⟨1, rfl, .inr ⟨hr, rfl⟩⟩, y⟩
  | true =>
    refine (recEncode_ok x w h hw hr).mono ?_
    rintro e w' ⟨⟨v, er, rfl, hv⟩, y⟩
    by_cases hl : (recBytes x).length > 16384
    · rw [if_pos hl] at hv
      obtain ⟨rfl, rfl⟩ := hv
      exact ⟨.inr ⟨3, rfl, .inl ⟨hr, hl, rfl⟩⟩, y⟩
    · rw [if_neg hl] at hv
      obtain ⟨ho, rfl⟩ := hv
      have hs := ho.src
      obtain ⟨ao, c, rfl⟩ := hs.form
      exact ⟨.inl ⟨hr, by omega, ao, c, rfl, hs⟩, y⟩
end Go.Proofs.YthkmohcdgnldgaaGreat

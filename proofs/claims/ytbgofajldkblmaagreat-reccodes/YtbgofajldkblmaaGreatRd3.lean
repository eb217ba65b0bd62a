/- A page's bytes with noughts behind are read as the page; how many bytes they are: plain lemmas. Own lemmas, no statement. -/
import Derived.Test.YtbgofajldkblmaaGreatRd2
import Derived.Test.YtbgofajldkblmaaGreatPgLen
namespace Go.Proofs.YtbgofajldkblmaaGreat

theorem noughts_rep (m : Nat) : noughtsB (List.replicate m 0) = true := by
  unfold noughtsB
  simp
theorem dec_of {p : Pg} {lsn : Nat} (hr : rightPg p = true) (hl : lsn ≤ 9223372036854775807) (m : Nat) :
    decOk (encP p lsn ++ List.replicate m 0) = true ∧ (decR (encP p lsn ++ List.replicate m 0)).p = p ∧ (lsnR (encP p lsn ++ List.replicate m 0)).1 = lsn := by
  have hk := right_kind hr
  have e1 : kindR (encP p lsn ++ List.replicate m 0) = (p.kind.toNat, enc lsn ++ (bodyB p ++ List.replicate m 0), 0) := by
    unfold kindR encP
    rw [List.append_assoc, List.append_assoc]
    exact rnum_of _ _ (by omega) (by omega) _
  have e2 : lsnR (encP p lsn ++ List.replicate m 0) = (lsn, bodyB p ++ List.replicate m 0, 0) := by
    unfold lsnR
    rw [e1]
    exact rnum_of _ _ (by omega) hl _
  have e3 : decR (encP p lsn ++ List.replicate m 0) = ⟨p, List.replicate m 0, 0⟩ := by
    unfold decR
    rw [e1, e2]
    exact body_read p hr _
  refine ⟨?_, by rw [e3], by rw [e2]⟩
  unfold decOk
  rw [e3]
  simp only
  rw [List.length_append, List.length_replicate, show (encP p lsn).length + m - m = (encP p lsn).length by omega]
  simp only [List.drop_left, noughts_rep, hr]
  rfl
end Go.Proofs.YtbgofajldkblmaaGreat

/- rec: the law's own right, of any right record. Own lemmas, no statement. -/
import Derived.Test.YthkmohcdgnldgaaGreatRecL2
import Derived.Test.YthkmohcdgnldgaaGreatRecL2b
import Derived.Test.YthkmohcdgnldgaaGreatRecB3
set_option linter.unusedSimpArgs false
set_option linter.unusedVariables false
namespace Go.Proofs.YthkmohcdgnldgaaGreat
open Go.ChangeShapes Go.WideShapes Go.ChangeAt Go.RowKit

theorem lawRight11_ok (x : RecV) (w : World) (h : x.At w) (hr : rightRec x = true) : Calls Tryz.prog 10 #[.agg #[.int .i64 x.kind, .int .u64 x.num, .int .i64 x.node, .string x.key, .bool x.was, .string x.old, .int .u64 x.prev, .slice x.na x.nn x.nc, .slice x.ra x.rn x.rc, .slice x.ga x.gn x.gc, .slice x.oa x.om x.oc, .slice x.da x.dn x.dc]] w (OkP w) := by
  have hk := (right_all hr).1
  have P := right_lists hr
  have e3 : ¬ x.kind = 3 → x.rn = 0 := fun hn => by have h1 := h.reads.at.1; rw [sv_length, P.n3 hn] at h1; exact h1
  have e6 : ¬ x.kind = 6 → x.nn = 0 := fun hn => by have h1 := h.nodes.at.1; rw [iv_length, P.n6 hn] at h1; exact h1
  have e8 : ¬ x.kind = 8 → x.om = 0 ∧ x.dn = 0 := fun hn => by
    have h1 := h.opens.len.1
    have h2 := h.dones.len.1
    rw [(P.n8 hn).1] at h1
    rw [(P.n8 hn).2] at h2
    exact ⟨h1, h2⟩
  have e2 : ¬ x.kind = 1 → ¬ x.kind = 2 → x.gn = 0 := fun hn hm => by have h1 := h.pages.len.1; rw [(P.n2 hn hm).2] at h1; exact h1
  have hns := h.nodes
  have hrs := h.reads
  rcases (show x.kind = 1 ∨ x.kind = 2 ∨ x.kind = 3 ∨ x.kind = 4 ∨ x.kind = 5 ∨ x.kind = 6 ∨ x.kind = 7 ∨ x.kind = 8 by omega) with k | k | k | k | k | k | k | k
  · have q6 := e3 (by omega)
    rw [q6] at hrs
    have q7 := e6 (by omega)
    rw [q7] at hns
    obtain ⟨q8, q9⟩ := e8 (by omega)
    obtain ⟨⟨k1, k2⟩, k3, k4⟩ := P.p1 k
    rw [k, q6, q7, q8, q9]
    exact right11_1 _ _ _ _ _ _ _ _ _ _ _ _ _ _ _ _ _ x.ns x.rs x.gs x.os x.ds w P.tid hns P.ns hrs P.rs P.pr h.pages h.pagez P.gs k1 k2 k3 k4
  · obtain ⟨q1, q2, q3⟩ := P.n1 (by omega)
    have q6 := e3 (by omega)
    rw [q6] at hrs
    have q7 := e6 (by omega)
    rw [q7] at hns
    obtain ⟨q8, q9⟩ := e8 (by omega)
    rw [k, q1, q2, q3, q6, q7, q8, q9]
    exact right11_2 _ _ _ _ _ _ _ _ _ _ _ _ _ _ x.ns x.rs x.gs x.os x.ds w P.tid hns P.ns hrs P.rs P.pr h.pages h.pagez P.gs
  · obtain ⟨q1, q2, q3⟩ := P.n1 (by omega)
    have q4 := (P.n2 (by omega) (by omega)).1
    have q5 := e2 (by omega) (by omega)
    have q7 := e6 (by omega)
    rw [q7] at hns
    obtain ⟨q8, q9⟩ := e8 (by omega)
    rw [k, q1, q2, q3, q4, q5, q7, q8, q9]
    exact right11_3 _ _ _ _ _ _ _ _ _ _ _ _ _ x.ns x.rs x.gs x.os x.ds w P.tid hns P.ns hrs P.rs
  · obtain ⟨q1, q2, q3⟩ := P.n1 (by omega)
    have q4 := (P.n2 (by omega) (by omega)).1
    have q5 := e2 (by omega) (by omega)
    have q6 := e3 (by omega)
    rw [q6] at hrs
    have q7 := e6 (by omega)
    rw [q7] at hns
    obtain ⟨q8, q9⟩ := e8 (by omega)
    rw [k, q1, q2, q3, q4, q5, q6, q7, q8, q9]
    exact right11_4 _ _ _ _ _ _ _ _ _ _ _ _ x.ns x.rs x.gs x.os x.ds w P.tid hns P.ns hrs P.rs
  · obtain ⟨q1, q2, q3⟩ := P.n1 (by omega)
    have q4 := (P.n2 (by omega) (by omega)).1
    have q5 := e2 (by omega) (by omega)
    have q6 := e3 (by omega)
    rw [q6] at hrs
    have q7 := e6 (by omega)
    rw [q7] at hns
    obtain ⟨q8, q9⟩ := e8 (by omega)
    rw [k, q1, q2, q3, q4, q5, q6, q7, q8, q9]
    exact right11_5 _ _ _ _ _ _ _ _ _ _ _ _ x.ns x.rs x.gs x.os x.ds w P.tid hns P.ns hrs P.rs
  · obtain ⟨q1, q2, q3⟩ := P.n1 (by omega)
    have q4 := (P.n2 (by omega) (by omega)).1
    have q5 := e2 (by omega) (by omega)
    have q6 := e3 (by omega)
    rw [q6] at hrs
    obtain ⟨q8, q9⟩ := e8 (by omega)
    rw [k, q1, q2, q3, q4, q5, q6, q8, q9]
    exact right11_6 _ _ _ _ _ _ _ _ _ _ _ _ _ x.ns x.rs x.gs x.os x.ds w P.tid hns P.ns hrs P.rs
  · obtain ⟨q1, q2, q3⟩ := P.n1 (by omega)
    have q4 := (P.n2 (by omega) (by omega)).1
    have q5 := e2 (by omega) (by omega)
    have q6 := e3 (by omega)
    rw [q6] at hrs
    have q7 := e6 (by omega)
    rw [q7] at hns
    obtain ⟨q8, q9⟩ := e8 (by omega)
    rw [k, q1, q2, q3, q4, q5, q6, q7, q8, q9]
    exact right11_7 _ _ _ _ _ _ _ _ _ _ _ _ x.ns x.rs x.gs x.os x.ds w P.tid hns P.ns hrs P.rs
  · obtain ⟨q1, q2, q3⟩ := P.n1 (by omega)
    have q4 := (P.n2 (by omega) (by omega)).1
    have q5 := e2 (by omega) (by omega)
    have q6 := e3 (by omega)
    rw [q6] at hrs
    have q7 := e6 (by omega)
    rw [q7] at hns
    obtain ⟨t1, t2⟩ := P.t8 k
    rw [k, q1, q2, q3, q4, q5, q6, q7, t1, t2]
    exact right11_8 _ _ _ _ _ _ _ _ _ _ _ _ x.ns x.rs x.gs x.os x.ds w rfl hns P.ns hrs P.rs h.opens h.openz P.os h.dones h.donez P.ds
end Go.Proofs.YthkmohcdgnldgaaGreat

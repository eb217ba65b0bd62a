/- rec: the law's own bytes, of any right record. Own lemmas, no statement. -/
import Derived.Test.YthkmohcdgnldgaaGreatRecB2
import Derived.Test.YthkmohcdgnldgaaGreatRecQ
set_option linter.unusedSimpArgs false
set_option linter.unusedVariables false
namespace Go.Proofs.YthkmohcdgnldgaaGreat
open Go.ChangeShapes Go.WideShapes Go.ChangeAt Go.RowKit

/-- What a right record's lists are. -/
structure Parts (x : RecV) : Prop where
  tid : tidOk x.num x.node = true
  gs : fitsB chgOk chgLt noChg 30 x.gs = true
  os : fitsB openOk openLt noOpen 200 x.os = true
  ds : fitsB doneOk doneLt noDone 200 x.ds = true
  rs : readsOk x.rs = true
  ns : nodesOk x.ns = true
  n3 : ¬ x.kind = 3 → x.rs = []
  n6 : ¬ x.kind = 6 → x.ns = []
  n8 : ¬ x.kind = 8 → x.os = [] ∧ x.ds = []
  n2 : ¬ x.kind = 1 → ¬ x.kind = 2 → x.prev = 0 ∧ x.gs = []
  n1 : ¬ x.kind = 1 → x.key = .empty ∧ x.was = false ∧ x.old = .empty
  p1 : x.kind = 1 → (1 ≤ x.key.size ∧ x.key.size ≤ 24) ∧ x.old.size ≤ 48 ∧ (x.was = true ∨ x.old.size = 0)
  pr : x.prev ≤ 4611686018427387904
  t8 : x.kind = 8 → x.num = 0 ∧ x.node = 0
theorem fits_nil {α : Type} {r : α → Bool} {a : α → α → Bool} {d : α} {m : Nat} : fitsB r a d m [] = true := by
  unfold fitsB
  simp [allB]
theorem right_lists {x : RecV} (h : rightRec x = true) : Parts x := by
  obtain ⟨hk, h3, h4, h5, h6, h7, h8, h9⟩ := right_all h
  refine ⟨?_, ?_, ?_, ?_, ?_, ?_, fun hn => ?_, fun hn => ?_, fun hn => ⟨?_, ?_⟩, fun hn hm => ?_, fun hn => ?_, fun hp => ?_, ?_, fun hp => ?_⟩
  · unfold rtTid at h3
    split at h3
    · simp only [Bool.and_eq_true, decide_eq_true_eq] at h3
      rw [h3.1, h3.2]
      rfl
    · exact h3
  · unfold rtTurn at h5
    split at h5
    · rw [Bool.and_eq_true] at h5
      exact h5.2
    · simp only [Bool.and_eq_true, decide_eq_true_eq] at h5
      rw [List.eq_nil_of_length_eq_zero h5.2]
      exact fits_nil
  · rcases or_empty h8 with e | e
    · rw [e]; exact fits_nil
    · exact e
  · rcases or_empty h9 with e | e
    · rw [e]; exact fits_nil
    · exact e
  · rcases or_empty h6 with e | e
    · rw [e]; exact fits_nil
    · exact e
  · rcases or_empty h7 with e | e
    · rw [e]; exact fits_nil
    · exact e
  · unfold rtReads at h6
    rw [decide_eq_false hn] at h6
    simpa using h6
  · unfold rtNodes at h7
    rw [decide_eq_false hn] at h7
    simpa using h7
  · unfold rtOpens at h8
    rw [decide_eq_false hn] at h8
    simpa using h8
  · unfold rtDones at h9
    rw [decide_eq_false hn] at h9
    simpa using h9
  · unfold rtTurn at h5
    rw [if_neg (by omega)] at h5
    simp only [Bool.and_eq_true, decide_eq_true_eq] at h5
    exact ⟨h5.1, List.eq_nil_of_length_eq_zero h5.2⟩
  · unfold rtOld at h4
    rw [if_neg hn] at h4
    simp only [Bool.and_eq_true] at h4
    exact ⟨empty_eq h4.1.1, by simpa using h4.1.2, empty_eq h4.2⟩
  · unfold rtOld at h4
    rw [if_pos hp] at h4
    simp only [Bool.and_eq_true, Bool.or_eq_true, decide_eq_true_eq] at h4
    refine ⟨?_, h4.1.2, ?_⟩
    · have h := h4.1.1
      unfold keyOk at h
      simpa only [Bool.and_eq_true, decide_eq_true_eq] using h
    · rcases h4.2 with h | h
      · exact .inl h
      · exact .inr (empty_size h)
  · unfold rtTurn at h5
    split at h5
    · rw [Bool.and_eq_true, decide_eq_true_eq] at h5
      exact h5.1
    · simp only [Bool.and_eq_true, decide_eq_true_eq] at h5
      omega
  · unfold rtTid at h3
    rw [if_pos hp] at h3
    simpa only [Bool.and_eq_true, decide_eq_true_eq] using h3
theorem lawBytes11_any (x : RecV) (w : World) (h : x.At w) (hw : x.Wf) (hr : rightRec x = true) : Calls Tryz.prog 11 #[.agg #[.int .i64 x.kind, .int .u64 x.num, .int .i64 x.node, .string x.key, .bool x.was, .string x.old, .int .u64 x.prev, .slice x.na x.nn x.nc, .slice x.ra x.rn x.rc, .slice x.ga x.gn x.gc, .slice x.oa x.om x.oc, .slice x.da x.dn x.dc]] w (BytesP w (recBytes x)) := by
  have hk := (right_all hr).1
  have P := right_lists hr
  have hlen : (recBytes x).length < 100000000 := by
    have h1 := (right_fit hr hw).2
    have a1 := enc_length x.kind.toNat
    have a2 := enc_length x.num.toNat
    have a3 := enc_length (uns x.node)
    unfold recBytes encHead
    simp only [List.length_append]
    omega
  have hgo := (fits_mem P.gs)
  have hoo := (fits_mem P.os)
  have hdo := (fits_mem P.ds)
  have hrn := reads_bounds P.rs
  have hnn := nodes_bounds P.ns
  rcases (show x.kind = 1 ∨ x.kind = 2 ∨ x.kind = 3 ∨ x.kind = 4 ∨ x.kind = 5 ∨ x.kind = 6 ∨ x.kind = 7 ∨ x.kind = 8 by omega) with k | k | k | k | k | k | k | k
  · have e : recBytes x = [1] ++ tidB x.num x.node ++ textB x.key ++ enc (flagN x.was) ++ textB x.old ++ intB x.prev ++ allB8 chgB x.gs := by
      unfold recBytes recB turnB encHead
      rw [if_pos k, k]
      simp only [List.append_assoc, tidB]
      rfl
    rw [e] at hlen ⊢
    rw [k]
    exact bytes11_1 _ _ _ _ _ _ _ _ _ _ _ _ _ _ _ _ _ _ _ _ _ x.ns x.rs x.gs x.os x.ds w hw.num hw.prev h.pages h.pagez hgo.2 (by omega) hlen
  · have e : recBytes x = [2] ++ tidB x.num x.node ++ intB x.prev ++ allB8 chgB x.gs := by
      unfold recBytes recB turnB encHead
      rw [if_neg (by omega), if_pos k, k]
      simp only [List.append_assoc, tidB]
      rfl
    rw [e] at hlen ⊢
    rw [k]
    exact bytes11_2 _ _ _ _ _ _ _ _ _ _ _ _ _ _ _ _ _ _ _ _ _ x.ns x.rs x.gs x.os x.ds w hw.num hw.prev h.pages h.pagez hgo.2 (by omega) hlen
  · have e : recBytes x = [3] ++ tidB x.num x.node ++ allB8 textB x.rs := by
      unfold recBytes recB turnB encHead
      rw [if_neg (by omega), if_neg (by omega), if_pos k, k]
      simp only [List.append_assoc, tidB]
      rfl
    rw [e] at hlen ⊢
    rw [k]
    exact bytes11_3 _ _ _ _ _ _ _ _ _ _ _ _ _ _ _ _ _ _ _ _ _ x.ns x.rs x.gs x.os x.ds w hw.num h.reads (by omega) hlen
  · have e : recBytes x = [4] ++ tidB x.num x.node := by
      unfold recBytes recB encHead
      rw [if_neg (by omega), if_neg (by omega), if_neg (by omega), if_neg (by omega), if_neg (by omega), k]
      simp only [List.append_assoc, tidB, List.append_nil]
      rfl
    rw [e] at hlen ⊢
    rw [k]
    exact bytes11_4 _ _ _ _ _ _ _ _ _ _ _ _ _ _ _ _ _ _ _ _ _ x.ns x.rs x.gs x.os x.ds w hw.num hlen
  · have e : recBytes x = [5] ++ tidB x.num x.node := by
      unfold recBytes recB encHead
      rw [if_neg (by omega), if_neg (by omega), if_neg (by omega), if_neg (by omega), if_neg (by omega), k]
      simp only [List.append_assoc, tidB, List.append_nil]
      rfl
    rw [e] at hlen ⊢
    rw [k]
    exact bytes11_5 _ _ _ _ _ _ _ _ _ _ _ _ _ _ _ _ _ _ _ _ _ x.ns x.rs x.gs x.os x.ds w hw.num hlen
  · have e : recBytes x = [6] ++ tidB x.num x.node ++ allB8 intB x.ns := by
      unfold recBytes recB encHead
      rw [if_neg (by omega), if_neg (by omega), if_neg (by omega), if_pos k, k]
      simp only [List.append_assoc, tidB]
      rfl
    rw [e] at hlen ⊢
    rw [k]
    exact bytes11_6 _ _ _ _ _ _ _ _ _ _ _ _ _ _ _ _ _ _ _ _ _ x.ns x.rs x.gs x.os x.ds w hw.num h.nodes (by omega) hnn.2 hlen
  · have e : recBytes x = [7] ++ tidB x.num x.node := by
      unfold recBytes recB encHead
      rw [if_neg (by omega), if_neg (by omega), if_neg (by omega), if_neg (by omega), if_neg (by omega), k]
      simp only [List.append_assoc, tidB, List.append_nil]
      rfl
    rw [e] at hlen ⊢
    rw [k]
    exact bytes11_7 _ _ _ _ _ _ _ _ _ _ _ _ _ _ _ _ _ _ _ _ _ x.ns x.rs x.gs x.os x.ds w hw.num hlen
  · have e : recBytes x = [8] ++ tidB x.num x.node ++ allB8 openB x.os ++ allB8 doneB x.ds := by
      unfold recBytes recB encHead
      rw [if_neg (by omega), if_neg (by omega), if_neg (by omega), if_neg (by omega), if_pos k, k]
      simp only [List.append_assoc, tidB]
      rfl
    rw [e] at hlen ⊢
    rw [k]
    exact bytes11_8 _ _ _ _ _ _ _ _ _ _ _ _ _ _ _ _ _ _ _ _ _ x.ns x.rs x.gs x.os x.ds w hw.num h.opens h.openz hoo.2 (by omega) h.dones h.donez hdo.2 (by omega) hw.os hw.ds hlen
end Go.Proofs.YthkmohcdgnldgaaGreat

/- A page's bytes with noughts behind are read as the page; how many bytes they are: plain lemmas. Own lemmas, no statement. -/
import Derived.Test.YtonhgekkdohpkaaRd2
namespace Go.Proofs.Ytonhgekkdohpkaa

theorem enc_one {n : Nat} (h : n < 128) : (enc n).length = 1 := by
  unfold enc
  rw [show (10 : Nat) = 9 + 1 from rfl, encF_small h]
  rfl
theorem txt_len1 {s : ByteArray} (h : s.size < 128) : (txt s).length = s.size + 1 := by
  have hl : s.data.toList.length = s.size := rfl
  unfold txt
  rw [List.length_append, enc_one h, hl]
  omega
theorem leafTo_len1 (ks vs : List ByteArray) (hk : ∀ i, (ks.getD i .empty).size ≤ 24) (hv : ∀ i, (vs.getD i .empty).size ≤ 48) (i : Nat) : (leafTo ks vs i).length ≤ 74 * i := by
  induction i with
  | zero => simp [leafTo]
  | succ i ih =>
    have h3 := hk i
    have h4 := hv i
    have h1 := txt_len1 (s := ks.getD i .empty) (by omega)
    have h2 := txt_len1 (s := vs.getD i .empty) (by omega)
    simp only [leafTo, List.length_append]
    omega
theorem encP_length {p : Pg} {lsn : Nat} (hr : rightPg p = true) : (encP p lsn).length ≤ 512 := by
  have hk := right_kind hr
  have h1 : (enc p.kind.toNat).length = 1 := enc_one (by omega)
  have h2 := enc_length lsn
  have hb : (bodyB p).length ≤ 460 := by
    unfold rightPg at hr
    unfold bodyB
    split
    · rename_i h
      rw [if_pos h] at hr
      obtain ⟨a1, a2, _, _, a5, a6⟩ := (leafOk_iff p).1 hr
      have := leafTo_len1 p.keys p.vals (keysOk_size a5) (valsOk_size a6) p.keys.length
      have := enc_length p.keys.length
      rw [List.length_append]; omega
    · rename_i h
      rw [if_neg h] at hr
      split
      · rename_i h'
        rw [if_pos h'] at hr
        obtain ⟨a1, a2, a3, _, _, a5, a6⟩ := (innerOk_iff p).1 hr
        have := innTo_length p.keys p.kids (keysOk_size a5) p.kids.length
        have := enc_length p.kids.length
        rw [List.length_append]; omega
      · split
        · have := numTo_length [p.root, p.next, p.size, p.idle] 4; omega
        · have := numTo_length [p.next] 1; omega
  unfold encP
  rw [List.length_append, List.length_append]
  omega
theorem noughts_rep (m : Nat) : noughtsB (List.replicate m 0) = true := by
  unfold noughtsB
  simp
theorem dec_of {p : Pg} {lsn : Nat} (hr : rightPg p = true) (hl : lsn ≤ 9223372036854775807) (m : Nat) :
    decOk (encP p lsn ++ List.replicate m 0) = true ∧ (decR (encP p lsn ++ List.replicate m 0)).p = p ∧ (lsnR (encP p lsn ++ List.replicate m 0)).1 = lsn := by
  have hk := right_kind hr
  have e1 : kindR (encP p lsn ++ List.replicate m 0) = (p.kind.toNat, enc lsn ++ (bodyB p ++ List.replicate m 0), 0) := by
    unfold kindR encP
    rw [List.append_assoc, List.append_assoc]
    exact rnum_of _ _ (by omega) (by omega) _
  have e2 : lsnR (encP p lsn ++ List.replicate m 0) = (lsn, bodyB p ++ List.replicate m 0, 0) := by
    unfold lsnR
    rw [e1]
    exact rnum_of _ _ (by omega) hl _
  have e3 : decR (encP p lsn ++ List.replicate m 0) = ⟨p, List.replicate m 0, 0⟩ := by
    unfold decR
    rw [e1, e2]
    exact body_read p hr _
  refine ⟨?_, by rw [e3], by rw [e2]⟩
  unfold decOk
  rw [e3]
  simp only
  rw [List.length_append, List.length_replicate, show (encP p lsn).length + m - m = (encP p lsn).length by omega]
  simp only [List.drop_left, noughts_rep, hr]
  rfl
theorem dec_great {p : Pg} {lsn : Nat} (hr : rightPg p = true) (h64 : lsn < 18446744073709551616) (hl : 9223372036854775807 < lsn) (r : List UInt8) : decOk (encP p lsn ++ r) = false := by
  have hk := right_kind hr
  cases ho : decOk (encP p lsn ++ r) with
  | false => rfl
  | true =>
    exfalso
    have e1 : kindR (encP p lsn ++ r) = (p.kind.toNat, enc lsn ++ (bodyB p ++ r), 0) := by
      unfold kindR encP
      rw [List.append_assoc, List.append_assoc]
      exact rnum_of _ _ (by omega) (by omega) _
    have e2 : (lsnR (encP p lsn ++ r)).2.2 = 3 := by
      unfold lsnR
      rw [e1]
      have hf := first_enc lsn h64 (bodyB p ++ r)
      unfold rnum
      rw [if_neg (by simp)]
      simp only [hf]
      rw [if_neg (by simp), if_pos hl]
    unfold decOk at ho
    simp only [Bool.and_eq_true, decide_eq_true_eq] at ho
    have := (body_inv _ _ _ ho.1.1 ho.1.2).1
    omega
end Go.Proofs.Ytonhgekkdohpkaa

/- How many bytes a page is: plain lemmas. Own lemmas, no statement. -/
import Derived.Test.YtbgofajldkblmaaGreatPg7
namespace Go.Proofs.YtbgofajldkblmaaGreat

theorem right_kind {p : Pg} (hr : rightPg p = true) : 1 ≤ p.kind ∧ p.kind ≤ 4 := by
  unfold rightPg at hr
  split at hr
  · omega
  · split at hr
    · omega
    · split at hr
      · omega
      · split at hr
        · omega
        · cases hr

/-- Unlike right pages, or unlike numbers, are unlike bytes. -/
theorem enc_one {n : Nat} (h : n < 128) : (enc n).length = 1 := by
  unfold enc
  rw [show (10 : Nat) = 9 + 1 from rfl, encF_small h]
  rfl
theorem txt_len1 {s : ByteArray} (h : s.size < 128) : (txt s).length = s.size + 1 := by
  have hl : s.data.toList.length = s.size := rfl
  unfold txt
  rw [List.length_append, enc_one h, hl]
  omega
theorem leafTo_len1 (ks vs : List ByteArray) (hk : ∀ i, (ks.getD i .empty).size ≤ 24) (hv : ∀ i, (vs.getD i .empty).size ≤ 48) (i : Nat) : (leafTo ks vs i).length ≤ 74 * i := by
  induction i with
  | zero => simp [leafTo]
  | succ i ih =>
    have h3 := hk i
    have h4 := hv i
    have h1 := txt_len1 (s := ks.getD i .empty) (by omega)
    have h2 := txt_len1 (s := vs.getD i .empty) (by omega)
    simp only [leafTo, List.length_append]
    omega
theorem encP_length {p : Pg} {lsn : Nat} (hr : rightPg p = true) : (encP p lsn).length ≤ 512 := by
  have hk := right_kind hr
  have h1 : (enc p.kind.toNat).length = 1 := enc_one (by omega)
  have h2 := enc_length lsn
  have hb : (bodyB p).length ≤ 460 := by
    unfold rightPg at hr
    unfold bodyB
    split
    · rename_i h
      rw [if_pos h] at hr
      obtain ⟨a1, a2, _, _, a5, a6⟩ := (leafOk_iff p).1 hr
      have := leafTo_len1 p.keys p.vals (keysOk_size a5) (valsOk_size a6) p.keys.length
      have := enc_length p.keys.length
      rw [List.length_append]; omega
    · rename_i h
      rw [if_neg h] at hr
      split
      · rename_i h'
        rw [if_pos h'] at hr
        obtain ⟨a1, a2, a3, _, _, a5, a6⟩ := (innerOk_iff p).1 hr
        have := innTo_length p.keys p.kids (keysOk_size a5) p.kids.length
        have := enc_length p.kids.length
        rw [List.length_append]; omega
      · split
        · have := numTo_length [p.root, p.next, p.size, p.idle] 4; omega
        · have := numTo_length [p.next] 1; omega
  unfold encP
  rw [List.length_append, List.length_append]
  omega
end Go.Proofs.YtbgofajldkblmaaGreat

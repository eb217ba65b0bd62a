/- What is read as a page was laid as one: plain lemmas. Own lemmas, no statement. -/
import Derived.Test.YthkmohcdgnldgaaGreatRd1
namespace Go.Proofs.YthkmohcdgnldgaaGreat

theorem fst_inv (l : List UInt8) : ∀ (acc i N S : Nat), i ≤ 9 → fstF acc i l = (N, S, 0) → ∃ m, N = acc + m * 2 ^ (7 * i) ∧ i ≤ S ∧ l = encF (10 - i) m ++ l.drop (S - i) ∧ (0 < i → 0 < m) := by
  induction l with
  | nil => intro acc i N S _ h; simp [fstF] at h
  | cons c t ih =>
    intro acc i N S hi h
    have hc : c.toNat < 256 := c.toNat_lt
    have hcc : UInt8.ofNat c.toNat = c := UInt8.ofNat_toNat
    unfold fstF at h
    split at h
    · simp at h
    · rename_i h9
      split at h
      · rename_i h128
        have hi8 : i ≤ 8 := by omega
        obtain ⟨m', e1, e2, e3, e4⟩ := ih _ (i + 1) N S (by omega) h
        have hm' := e4 (by omega)
        refine ⟨(c.toNat - 128) + 128 * m', ?_, by omega, ?_, fun _ => by omega⟩
        · rw [e1, show 7 * (i + 1) = 7 * i + 7 by omega, Nat.pow_add, Nat.add_mul]
          have : m' * (2 ^ (7 * i) * 2 ^ 7) = 128 * m' * 2 ^ (7 * i) := by
            rw [Nat.mul_comm (2 ^ (7 * i)) (2 ^ 7), ← Nat.mul_assoc, Nat.mul_comm m' (2 ^ 7)]
          omega
        · have hb : UInt8.ofNat (((c.toNat - 128) + 128 * m') % 128 + 128) = c := by
            rw [show ((c.toNat - 128) + 128 * m') % 128 + 128 = c.toNat by omega]; exact hcc
          have hd : ((c.toNat - 128) + 128 * m') / 128 = m' := by omega
          rw [show 10 - i = (10 - (i + 1)) + 1 by omega, encF_great (by omega), hb, hd, show S - i = (S - (i + 1)) + 1 by omega, List.drop_succ_cons, List.cons_append, ← e3]
      · rename_i h128
        split at h
        · simp at h
        · rename_i h0
          simp only [Prod.mk.injEq, and_true] at h
          obtain ⟨rfl, rfl⟩ := h
          refine ⟨c.toNat, rfl, by omega, ?_, fun h => by omega⟩
          rw [show 10 - i = (9 - i) + 1 by omega, encF_small (by omega), hcc, show i + 1 - i = 1 by omega]
          rfl
theorem rnum_inv {l : List UInt8} {e m : Nat} (h : (rnum l e m).2.2 = 0) : e = 0 ∧ l = enc (rnum l e m).1 ++ (rnum l e m).2.1 := by
  unfold rnum at h ⊢
  split at h
  · exact absurd h (by assumption)
  · rename_i h0
    split at h
    · exact absurd h (by assumption)
    · rename_i h1
      split at h
      · simp at h
      · rename_i h2
        have h0' : e = 0 := by omega
        rw [if_neg h0, if_neg h1, if_neg h2]
        refine ⟨h0', ?_⟩
        have hz : (firstL l).2.2 = 0 := by omega
        obtain ⟨N, hN⟩ : ∃ N, (firstL l).1 = N := ⟨_, rfl⟩
        obtain ⟨S, hS⟩ : ∃ S, (firstL l).2.1 = S := ⟨_, rfl⟩
        have hf : fstF 0 0 l = (N, S, 0) := by
          show firstL l = (N, S, 0)
          rw [← hN, ← hS]
          exact Prod.ext rfl (Prod.ext rfl hz)
        obtain ⟨k, e1, _, e3, _⟩ := fst_inv l 0 0 N S (by omega) hf
        have : N = k := by rw [e1]; simp
        rw [hN, hS]
        show l = enc N ++ l.drop S
        rw [this]
        simpa [enc] using e3
theorem rtext_inv {l : List UInt8} {e M : Nat} (h : (rtext l e M).2.2 = 0) : e = 0 ∧ l = txt ⟨(rtext l e M).1.toArray⟩ ++ (rtext l e M).2.1 := by
  unfold rtext at h ⊢
  split at h
  · exact absurd h (by assumption)
  · rename_i h0
    split at h
    · simp at h
    · rename_i h1
      rw [if_neg h0, if_neg h1]
      obtain ⟨a, b⟩ := rnum_inv (l := l) (e := e) (m := M) (by omega)
      refine ⟨a, ?_⟩
      have hs : (⟨((rnum l e M).2.1.take (rnum l e M).1).toArray⟩ : ByteArray).size = (rnum l e M).1 := by
        show ((rnum l e M).2.1.take (rnum l e M).1).toArray.size = _
        rw [List.size_toArray, List.length_take]; omega
      unfold txt
      rw [hs, List.append_assoc]
      simp only [List.take_append_drop]
      exact b
theorem leafR_inv (l : List UInt8) (e n : Nat) (h : (leafR l e n).e = 0) : e = 0 ∧ l = lB ((leafR l e n).ks.zip (leafR l e n).vs) ++ (leafR l e n).l := by
  induction n with
  | zero => exact ⟨h, rfl⟩
  | succ n ih =>
    obtain ⟨a1, a2⟩ := rtext_inv (l := (lsK (leafR l e n)).2.1) (e := (lsK (leafR l e n)).2.2) (M := 48) h
    obtain ⟨b1, b2⟩ := rtext_inv (l := (leafR l e n).l) (e := (leafR l e n).e) (M := 24) a1
    obtain ⟨c1, c2⟩ := ih b1
    refine ⟨c1, ?_⟩
    have hl := leafR_len l e n
    show l = lB (((leafR l e n).ks ++ [(⟨(lsK (leafR l e n)).1.toArray⟩ : ByteArray)]).zip ((leafR l e n).vs ++ [(⟨(lsV (leafR l e n)).1.toArray⟩ : ByteArray)])) ++ (lsV (leafR l e n)).2.1
    rw [List.zip_append (by omega), lB_append]
    have b2' : (leafR l e n).l = txt ⟨(lsK (leafR l e n)).1.toArray⟩ ++ (lsK (leafR l e n)).2.1 := b2
    have a2' : (lsK (leafR l e n)).2.1 = txt ⟨(lsV (leafR l e n)).1.toArray⟩ ++ (lsV (leafR l e n)).2.1 := a2
    rw [b2', a2'] at c2
    simpa [lB, List.append_assoc] using c2
theorem innR_inv (l : List UInt8) (e n : Nat) (h : (innR l e (n + 1)).e = 0) : e = 0 ∧ ∃ d0 ds, (innR l e (n + 1)).ds = d0 :: ds ∧ ds.length = n ∧ l = (enc d0.toNat ++ iB ((innR l e (n + 1)).ks.zip ds)) ++ (innR l e (n + 1)).l := by
  induction n with
  | zero =>
    obtain ⟨a1, a2⟩ := rnum_inv (l := l) (e := e) (m := 65535) h
    refine ⟨a1, ((rnum l e 65535).1 : Int), [], rfl, rfl, ?_⟩
    show l = (enc (((rnum l e 65535).1 : Int)).toNat ++ iB (([] : List ByteArray).zip [])) ++ (rnum l e 65535).2.1
    simpa [iB] using a2
  | succ n ih =>
    have hk : isK (n + 1) (innR l e (n + 1)) = ⟨(innR l e (n + 1)).ks ++ [⟨(isT (innR l e (n + 1))).1.toArray⟩], (innR l e (n + 1)).ds, (isT (innR l e (n + 1))).2.1, (isT (innR l e (n + 1))).2.2⟩ := by unfold isK; rw [if_neg (by omega)]
    have hs : innR l e (n + 1 + 1) = isS (isK (n + 1) (innR l e (n + 1))) := rfl
    rw [hs, hk] at h ⊢
    obtain ⟨a1, a2⟩ := rnum_inv (l := (isT (innR l e (n + 1))).2.1) (e := (isT (innR l e (n + 1))).2.2) (m := 65535) h
    obtain ⟨b1, b2⟩ := rtext_inv (l := (innR l e (n + 1)).l) (e := (innR l e (n + 1)).e) (M := 24) a1
    obtain ⟨c1, d0, ds, c2, c3, c4⟩ := ih b1
    have hl := innR_len l e (n + 1)
    obtain ⟨X, hX⟩ : ∃ X, (rnum (isT (innR l e (n + 1))).2.1 (isT (innR l e (n + 1))).2.2 65535).1 = X := ⟨_, rfl⟩
    obtain ⟨R, hR⟩ : ∃ R, (rnum (isT (innR l e (n + 1))).2.1 (isT (innR l e (n + 1))).2.2 65535).2.1 = R := ⟨_, rfl⟩
    refine ⟨c1, d0, ds ++ [(X : Int)], ?_, by simp [c3], ?_⟩
    · show (innR l e (n + 1)).ds ++ [((rnum (isT (innR l e (n + 1))).2.1 (isT (innR l e (n + 1))).2.2 65535).1 : Int)] = _
      rw [c2, hX]; rfl
    · show l = (enc d0.toNat ++ iB (((innR l e (n + 1)).ks ++ [(⟨(isT (innR l e (n + 1))).1.toArray⟩ : ByteArray)]).zip (ds ++ [(X : Int)]))) ++ (rnum (isT (innR l e (n + 1))).2.1 (isT (innR l e (n + 1))).2.2 65535).2.1
      rw [hR, List.zip_append (by omega), iB_append]
      have b2' : (innR l e (n + 1)).l = txt ⟨(isT (innR l e (n + 1))).1.toArray⟩ ++ (isT (innR l e (n + 1))).2.1 := b2
      rw [hX, hR] at a2
      rw [b2', a2] at c4
      simpa [iB, List.append_assoc] using c4

theorem body_inv (k : Nat) (l : List UInt8) (e : Nat) (h : (bodyR k l e).e = 0) (hr : rightPg (bodyR k l e).p = true) : e = 0 ∧ l = bodyB (bodyR k l e).p ++ (bodyR k l e).l ∧ (bodyR k l e).p.kind = (k : Int) := by
  unfold bodyR at h hr ⊢
  split at h
  · rename_i hk
    subst hk
    rw [if_pos rfl] at hr ⊢
    obtain ⟨a1, a2⟩ := leafR_inv (rnum l e 6).2.1 (rnum l e 6).2.2 (rnum l e 6).1 h
    obtain ⟨b1, b2⟩ := rnum_inv a1
    have hl := leafR_len (rnum l e 6).2.1 (rnum l e 6).2.2 (rnum l e 6).1
    refine ⟨b1, ?_, rfl⟩
    show l = bodyB (withL (pk 1) (lfR l e)) ++ (lfR l e).l
    have hk : (lfR l e).ks.length = (rnum l e 6).1 := hl.1
    have hv : (lfR l e).vs.length = (lfR l e).ks.length := by rw [hk]; exact hl.2
    unfold bodyB
    rw [if_pos (show (withL (pk 1) (lfR l e)).kind = 1 from rfl)]
    show l = (enc (lfR l e).ks.length ++ leafTo (lfR l e).ks (lfR l e).vs (lfR l e).ks.length) ++ (lfR l e).l
    rw [leafTo_lB _ _ hv _ (Nat.le_refl _), List.take_of_length_le (by simp; omega), hk, List.append_assoc]
    have a2' : (rnum l e 6).2.1 = lB ((lfR l e).ks.zip (lfR l e).vs) ++ (lfR l e).l := a2
    rw [← a2']
    exact b2
  · rename_i hk1
    split at h
    · rename_i hk
      subst hk
      rw [if_neg (by decide), if_pos rfl] at hr
      rw [if_neg (by decide), if_pos rfl]
      have hrr := hr
      unfold rightPg at hrr
      rw [if_neg (show ¬ (withI (pk 2) (inR l e)).kind = 1 from by show ¬ (2 : Int) = 1; decide), if_pos (show (withI (pk 2) (inR l e)).kind = 2 from rfl)] at hrr
      obtain ⟨q1, _⟩ := (innerOk_iff _).1 hrr
      have hl := innR_len (rnum l e 8).2.1 (rnum l e 8).2.2 (rnum l e 8).1
      have hd : (inR l e).ds.length = (rnum l e 8).1 := hl.2
      have hkk : (inR l e).ks.length = (rnum l e 8).1 - 1 := hl.1
      have q1' : 2 ≤ (inR l e).ds.length := q1
      obtain ⟨n, hn⟩ : ∃ n, (rnum l e 8).1 = n + 1 := ⟨(rnum l e 8).1 - 1, by omega⟩
      have hin : inR l e = innR (rnum l e 8).2.1 (rnum l e 8).2.2 (n + 1) := by unfold inR; rw [hn]
      have h' : (innR (rnum l e 8).2.1 (rnum l e 8).2.2 (n + 1)).e = 0 := by rw [← hin]; exact h
      obtain ⟨a1, d0, ds, a2, a3, a4⟩ := innR_inv _ _ n h'
      rw [← hin] at a2 a4
      obtain ⟨b1, b2⟩ := rnum_inv a1
      refine ⟨b1, ?_, rfl⟩
      unfold bodyB
      rw [if_neg (show ¬ (withI (pk 2) (inR l e)).kind = 1 from by show ¬ (2 : Int) = 1; decide), if_pos (show (withI (pk 2) (inR l e)).kind = 2 from rfl)]
      show l = (enc (inR l e).ds.length ++ innTo (inR l e).ks (inR l e).ds (inR l e).ds.length) ++ (inR l e).l
      rw [hd, hn, a2, innTo_iB _ _ _ (by omega) _ (by omega), List.take_of_length_le (by simp; omega), List.append_assoc, ← a4, ← hn]
      exact b2
    · rename_i hk2
      split at h
      · rename_i hk
        subst hk
        rw [if_neg (by decide), if_neg (by decide), if_pos rfl]
        obtain ⟨a1, a2⟩ := rnum_inv (l := (m3R l e).2.1) (e := (m3R l e).2.2) (m := 65536) h
        obtain ⟨b1, b2⟩ := rnum_inv (l := (m2R l e).2.1) (e := (m2R l e).2.2) (m := 65536) a1
        obtain ⟨c1, c2⟩ := rnum_inv (l := (m1R l e).2.1) (e := (m1R l e).2.2) (m := 65535) b1
        obtain ⟨d1, d2⟩ := rnum_inv (l := l) (e := e) (m := 65535) c1
        refine ⟨d1, ?_, rfl⟩
        show l = bodyB (mePg l e) ++ (m4R l e).2.1
        unfold bodyB mePg
        dsimp only
        rw [if_neg (by decide), if_neg (by decide), if_pos rfl, num4]
        simp only [Int.toNat_natCast, List.append_assoc]
        have a2' : (m3R l e).2.1 = enc (m4R l e).1 ++ (m4R l e).2.1 := a2
        have b2' : (m2R l e).2.1 = enc (m3R l e).1 ++ (m3R l e).2.1 := b2
        have c2' : (m1R l e).2.1 = enc (m2R l e).1 ++ (m2R l e).2.1 := c2
        rw [← a2', ← b2', ← c2']
        exact d2
      · rename_i hk3
        split at h
        · rename_i hk
          subst hk
          rw [if_neg (by decide), if_neg (by decide), if_neg (by decide), if_pos rfl]
          obtain ⟨d1, d2⟩ := rnum_inv (l := l) (e := e) (m := 65535) h
          refine ⟨d1, ?_, rfl⟩
          show l = bodyB (frPg l e) ++ (m1R l e).2.1
          unfold bodyB frPg
          dsimp only
          rw [if_neg (by decide), if_neg (by decide), if_neg (by decide), num1]
          simp only [Int.toNat_natCast]
          exact d2
        · rename_i hk4
          rw [if_neg hk1, if_neg hk2, if_neg hk3, if_neg hk4] at hr
          have := right_kind hr
          have h1 : (pk k).kind = (k : Int) := rfl
          simp only at this
          rw [h1] at this
          omega

/-- What Decode takes is the page's bytes, and noughts. -/
theorem dec_inv (l : List UInt8) (h : decOk l = true) : l = encP (decR l).p (lsnR l).1 ++ (decR l).l ∧ noughtsB (decR l).l = true ∧ rightPg (decR l).p = true := by
  unfold decOk at h
  simp only [Bool.and_eq_true, decide_eq_true_eq] at h
  obtain ⟨⟨h1, h2⟩, h3⟩ := h
  obtain ⟨a1, a2, a3⟩ := body_inv _ _ _ h1 h2
  obtain ⟨b1, b2⟩ := rnum_inv (l := (kindR l).2.1) (e := (kindR l).2.2) (m := 9223372036854775807) a1
  obtain ⟨_, c2⟩ := rnum_inv (l := l) (e := 0) (m := 4) b1
  have hk : (decR l).p.kind = ((kindR l).1 : Int) := a3
  have hl : l = encP (decR l).p (lsnR l).1 ++ (decR l).l := by
    unfold encP
    rw [hk, Int.toNat_natCast, List.append_assoc, List.append_assoc]
    have a2' : (lsnR l).2.1 = bodyB (decR l).p ++ (decR l).l := a2
    have b2' : (kindR l).2.1 = enc (lsnR l).1 ++ (lsnR l).2.1 := b2
    rw [← a2', ← b2']
    exact c2
  refine ⟨hl, ?_, h2⟩
  have hd : l.drop (l.length - (decR l).l.length) = (decR l).l := by
    have hx : l.length = (encP (decR l).p (lsnR l).1).length + (decR l).l.length := by
      have := congrArg List.length hl
      rw [List.length_append] at this
      exact this
    generalize (decR l).l = R at *
    generalize encP (decR l).p (lsnR l).1 = Q at *
    rw [hx, show Q.length + R.length - R.length = Q.length by omega, hl]
    simp
  rw [hd] at h3
  exact h3
end Go.Proofs.YthkmohcdgnldgaaGreat

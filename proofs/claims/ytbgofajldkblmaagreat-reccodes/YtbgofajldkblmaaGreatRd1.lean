/- What is laid of a page is read again: plain lemmas. Own lemmas, no statement. -/
import Derived.Test.YtbgofajldkblmaaGreatPgLen
import Derived.Test.YtbgofajldkblmaaGreatDec4
import Derived.Test.YtbgofajldkblmaaGreatDecode
namespace Go.Proofs.YtbgofajldkblmaaGreat

theorem rnum_of (A most : Nat) (hA : A < 18446744073709551616) (hm : A ≤ most) (r : List UInt8) : rnum (enc A ++ r) 0 most = (A, r, 0) := by
  have h := first_enc A hA r
  unfold rnum
  rw [if_neg (by omega), h]
  simp only
  rw [if_neg (by simp), if_neg (by omega)]
  simp
theorem rtext_of (s : ByteArray) (M : Nat) (hs : s.size ≤ M) (hb : s.size < 18446744073709551616) (r : List UInt8) : rtext (txt s ++ r) 0 M = (s.data.toList, r, 0) := by
  have hl : s.data.toList.length = s.size := rfl
  unfold rtext txt
  rw [List.append_assoc, rnum_of s.size M hb hs]
  simp only
  rw [if_neg (by simp), if_neg (by rw [List.length_append, hl]; omega)]
  rw [List.take_append_of_le_length (by omega), List.drop_append_of_le_length (by omega), List.take_of_length_le (by omega), List.drop_of_length_le (by omega)]
  rfl

/-- Entries of a leaf, pages of an inner one: from the front. -/
def lB : List (ByteArray × ByteArray) → List UInt8
  | [] => []
  | p :: t => (txt p.1 ++ txt p.2) ++ lB t
def iB : List (ByteArray × Int) → List UInt8
  | [] => []
  | p :: t => (txt p.1 ++ enc p.2.toNat) ++ iB t
theorem lB_append (a b : List (ByteArray × ByteArray)) : lB (a ++ b) = lB a ++ lB b := by
  induction a with
  | nil => rfl
  | cons p t ih => simp [lB, ih, List.append_assoc]
theorem iB_append (a b : List (ByteArray × Int)) : iB (a ++ b) = iB a ++ iB b := by
  induction a with
  | nil => rfl
  | cons p t ih => simp [iB, ih, List.append_assoc]
theorem leafTo_lB (ks vs : List ByteArray) (h : vs.length = ks.length) (i : Nat) (hi : i ≤ ks.length) : leafTo ks vs i = lB ((ks.zip vs).take i) := by
  induction i with
  | zero => rfl
  | succ i ih =>
    have h1 : i < ks.length := by omega
    have h2 : i < vs.length := by omega
    have h3 : i < (ks.zip vs).length := by simp; omega
    rw [leafTo, ih (by omega), List.take_succ_eq_append_getElem h3, lB_append, getD_of h1, getD_of h2]
    simp [lB, List.getElem_zip]
theorem innTo_iB (ks : List ByteArray) (ds : List Int) (d0 : Int) (h : ds.length = ks.length) (i : Nat) (hi : i ≤ ks.length) : innTo ks (d0 :: ds) (i + 1) = enc d0.toNat ++ iB ((ks.zip ds).take i) := by
  induction i with
  | zero => simp [innTo, iB]
  | succ i ih =>
    have h1 : i < ks.length := by omega
    have h2 : i < ds.length := by omega
    have h3 : i < (ks.zip ds).length := by simp; omega
    rw [innTo, ih (by omega), List.take_succ_eq_append_getElem h3, iB_append, if_neg (by omega), show i + 1 - 1 = i from rfl, getD_of h1]
    simp [iB, List.getElem_zip, List.getD, h2, List.append_assoc]
theorem ba_back (s : ByteArray) : (⟨s.data.toList.toArray⟩ : ByteArray) = s := by simp
theorem leafR_read (ks vs : List ByteArray) (h : vs.length = ks.length) (hk : ∀ i, (ks.getD i .empty).size ≤ 24) (hv : ∀ i, (vs.getD i .empty).size ≤ 48) (r : List UInt8) (i : Nat) (hi : i ≤ ks.length) :
    leafR (lB (ks.zip vs) ++ r) 0 i = ⟨ks.take i, vs.take i, lB ((ks.zip vs).drop i) ++ r, 0⟩ := by
  induction i with
  | zero => rfl
  | succ i ih =>
    have h1 : i < ks.length := by omega
    have h2 : i < vs.length := by omega
    have h3 : i < (ks.zip vs).length := by simp; omega
    have a1 := hk i
    have a2 := hv i
    rw [getD_of h1] at a1
    rw [getD_of h2] at a2
    have e1 : lsK ⟨ks.take i, vs.take i, lB ((ks.zip vs).drop i) ++ r, 0⟩ = (ks[i].data.toList, txt vs[i] ++ (lB ((ks.zip vs).drop (i + 1)) ++ r), 0) := by
      unfold lsK
      simp only
      rw [List.drop_eq_getElem_cons h3, lB]
      simp only [List.getElem_zip, List.append_assoc]
      exact rtext_of ks[i] 24 a1 (by omega) _
    have e2 : lsV ⟨ks.take i, vs.take i, lB ((ks.zip vs).drop i) ++ r, 0⟩ = (vs[i].data.toList, lB ((ks.zip vs).drop (i + 1)) ++ r, 0) := by
      unfold lsV
      rw [e1]
      exact rtext_of vs[i] 48 a2 (by omega) _
    rw [leafR, ih (by omega), e1, e2, List.take_succ_eq_append_getElem h1, List.take_succ_eq_append_getElem h2]
theorem innR_read (ks : List ByteArray) (ds : List Int) (d0 : Int) (h : ds.length = ks.length) (hk : ∀ i, (ks.getD i .empty).size ≤ 24) (hd0 : 0 ≤ d0 ∧ d0 < 65536) (hd : ∀ i, 0 ≤ ds.getD i 0 ∧ ds.getD i 0 < 65536) (r : List UInt8) (i : Nat) (hi : i ≤ ks.length) :
    innR ((enc d0.toNat ++ iB (ks.zip ds)) ++ r) 0 (i + 1) = ⟨ks.take i, d0 :: ds.take i, iB ((ks.zip ds).drop i) ++ r, 0⟩ := by
  induction i with
  | zero =>
    have e : isD ⟨[], [], (enc d0.toNat ++ iB (ks.zip ds)) ++ r, 0⟩ = (d0.toNat, iB (ks.zip ds) ++ r, 0) := by
      unfold isD
      simp only
      rw [List.append_assoc]
      exact rnum_of _ _ (by omega) (by omega) _
    rw [innR, isK, if_pos rfl, innR, isS, e]
    have : ((d0.toNat : Nat) : Int) = d0 := by omega
    simp [this]
  | succ i ih =>
    have h1 : i < ks.length := by omega
    have h2 : i < ds.length := by omega
    have h3 : i < (ks.zip ds).length := by simp; omega
    have a1 := hk i
    have a2 := hd i
    rw [getD_of h1] at a1
    rw [getD_of h2] at a2
    have e1 : isT ⟨ks.take i, d0 :: ds.take i, iB ((ks.zip ds).drop i) ++ r, 0⟩ = (ks[i].data.toList, enc ds[i].toNat ++ (iB ((ks.zip ds).drop (i + 1)) ++ r), 0) := by
      unfold isT
      simp only
      rw [List.drop_eq_getElem_cons h3, iB]
      simp only [List.getElem_zip, List.append_assoc]
      exact rtext_of ks[i] 24 a1 (by omega) _
    have e2 : isD ⟨ks.take i ++ [⟨ks[i].data.toList.toArray⟩], d0 :: ds.take i, enc ds[i].toNat ++ (iB ((ks.zip ds).drop (i + 1)) ++ r), 0⟩ = (ds[i].toNat, iB ((ks.zip ds).drop (i + 1)) ++ r, 0) := by
      unfold isD
      exact rnum_of _ _ (by omega) (by omega) _
    have e3 : ((ds[i].toNat : Nat) : Int) = ds[i] := by omega
    rw [innR, ih (by omega), isK, if_neg (by omega), e1]
    simp only
    rw [isS, e2, List.take_succ_eq_append_getElem h1, List.take_succ_eq_append_getElem h2]
    simp only [ba_back, e3, List.cons_append]

theorem sameNum_zero {p : Pg} (h : sameNum p .zero = true) : p.root = 0 ∧ p.next = 0 ∧ p.size = 0 ∧ p.idle = 0 := by
  unfold sameNum at h
  simp only [Bool.and_eq_true, decide_eq_true_eq] at h
  exact ⟨h.1.1.1, h.1.1.2, h.1.2, h.2⟩
theorem noL_nil {p : Pg} (h : noL p = true) : p.keys = [] ∧ p.vals = [] ∧ p.kids = [] := by
  simp [noL] at h
  exact ⟨h.1.1, h.1.2, h.2⟩
theorem num4 (a b c d : Int) : numTo [a, b, c, d] 4 = enc a.toNat ++ (enc b.toNat ++ (enc c.toNat ++ enc d.toNat)) := by
  simp [numTo, List.append_assoc]
theorem num1 (a : Int) : numTo [a] 1 = enc a.toNat := by simp [numTo]

/-- What stands behind the kind and the number is read as the page. -/
theorem body_read (p : Pg) (hr : rightPg p = true) (r : List UInt8) : bodyR p.kind.toNat (bodyB p ++ r) 0 = ⟨p, r, 0⟩ := by
  obtain ⟨kind, keys, vals, kids, root, next, size, idle⟩ := p
  unfold rightPg at hr
  by_cases h1 : kind = 1
  · subst h1
    rw [if_pos rfl] at hr
    obtain ⟨a1, a2, a3, a4, a5, a6⟩ := (leafOk_iff _).1 hr
    obtain ⟨b1, b2, b3, b4⟩ := sameNum_zero a4
    simp only at a1 a2 a3 a5 a6 b1 b2 b3 b4
    have hk0 := List.eq_nil_of_length_eq_zero a3
    subst b1 b2 b3 b4 hk0
    have e0 : rnum (bodyB ⟨1, keys, vals, [], 0, 0, 0, 0⟩ ++ r) 0 6 = (keys.length, leafTo keys vals keys.length ++ r, 0) := by
      unfold bodyB
      rw [if_pos rfl, List.append_assoc]
      exact rnum_of _ _ (by omega) a1 _
    have e1 := leafR_read keys vals a2 (keysOk_size a5) (valsOk_size a6) r keys.length (Nat.le_refl _)
    rw [leafTo_lB keys vals a2 _ (Nat.le_refl _), List.take_of_length_le (by simp; omega)] at e0
    rw [List.take_of_length_le (Nat.le_refl _), List.take_of_length_le (by omega), List.drop_of_length_le (by simp; omega)] at e1
    have e2 : lfR (bodyB ⟨1, keys, vals, [], 0, 0, 0, 0⟩ ++ r) 0 = ⟨keys, vals, r, 0⟩ := by
      unfold lfR
      rw [e0]
      exact e1
    show bodyR 1 _ 0 = _
    unfold bodyR
    rw [if_pos rfl, e2]
    rfl
  · rw [if_neg h1] at hr
    by_cases h2 : kind = 2
    · subst h2
      rw [if_pos rfl] at hr
      obtain ⟨a1, a2, a3, a4, a5, a6, a7⟩ := (innerOk_iff _).1 hr
      obtain ⟨b1, b2, b3, b4⟩ := sameNum_zero a5
      simp only at a1 a2 a3 a4 a6 a7 b1 b2 b3 b4
      have hv0 := List.eq_nil_of_length_eq_zero a4
      subst b1 b2 b3 b4 hv0
      obtain ⟨d0, ds, rfl⟩ : ∃ d0 ds, kids = d0 :: ds := by
        cases kids with
        | nil => simp at a1
        | cons d t => exact ⟨d, t, rfl⟩
      have hlen : ds.length = keys.length := by simp at a3; omega
      have hd0 := kidsOk_range a7 0
      have hds : ∀ i, 0 ≤ ds.getD i 0 ∧ ds.getD i 0 < 65536 := fun i => by
        have := kidsOk_range a7 (i + 1)
        simpa [List.getD] using this
      have e0 : rnum (bodyB ⟨2, keys, [], d0 :: ds, 0, 0, 0, 0⟩ ++ r) 0 8 = (keys.length + 1, innTo keys (d0 :: ds) (keys.length + 1) ++ r, 0) := by
        unfold bodyB
        dsimp only
        rw [if_neg (by decide), if_pos rfl, List.append_assoc]
        rw [show (d0 :: ds).length = keys.length + 1 by simp [hlen]]
        exact rnum_of _ _ (by omega) (by simp at a2; omega) _
      have e1 := innR_read keys ds d0 hlen (keysOk_size a6) (by simpa using hd0) hds r keys.length (Nat.le_refl _)
      rw [innTo_iB keys ds d0 hlen _ (Nat.le_refl _), List.take_of_length_le (by simp; omega)] at e0
      rw [List.take_of_length_le (Nat.le_refl _), List.take_of_length_le (by omega), List.drop_of_length_le (by simp; omega)] at e1
      have e2 : inR (bodyB ⟨2, keys, [], d0 :: ds, 0, 0, 0, 0⟩ ++ r) 0 = ⟨keys, d0 :: ds, r, 0⟩ := by
        unfold inR
        rw [e0]
        exact e1
      show bodyR 2 _ 0 = _
      unfold bodyR
      rw [if_neg (by decide), if_pos rfl, e2]
      rfl
    · rw [if_neg h2] at hr
      by_cases h3 : kind = 3
      · subst h3
        rw [if_pos rfl] at hr
        obtain ⟨a1, a2, a3, a4, a5, a6, a7⟩ := (metaOk_iff _).1 hr
        obtain ⟨b1, b2, b3⟩ := noL_nil a1
        simp only at a2 a3 a4 a5 a6 a7 b1 b2 b3
        subst b1 b2 b3
        have c1 : m1R (bodyB ⟨3, [], [], [], root, next, size, idle⟩ ++ r) 0 = (root.toNat, enc next.toNat ++ (enc size.toNat ++ (enc idle.toNat ++ r)), 0) := by
          unfold m1R bodyB
          dsimp only
          rw [if_neg (by decide), if_neg (by decide), if_pos rfl, num4]
          simp only [List.append_assoc]
          exact rnum_of _ _ (by omega) (by omega) _
        have c2 : m2R (bodyB ⟨3, [], [], [], root, next, size, idle⟩ ++ r) 0 = (next.toNat, enc size.toNat ++ (enc idle.toNat ++ r), 0) := by
          unfold m2R; rw [c1]; exact rnum_of _ _ (by omega) (by omega) _
        have c3 : m3R (bodyB ⟨3, [], [], [], root, next, size, idle⟩ ++ r) 0 = (size.toNat, enc idle.toNat ++ r, 0) := by
          unfold m3R; rw [c2]; exact rnum_of _ _ (by omega) (by omega) _
        have c4 : m4R (bodyB ⟨3, [], [], [], root, next, size, idle⟩ ++ r) 0 = (idle.toNat, r, 0) := by
          unfold m4R; rw [c3]; exact rnum_of _ _ (by omega) (by omega) _
        show bodyR 3 _ 0 = _
        unfold bodyR mePg
        rw [if_neg (by decide), if_neg (by decide), if_pos rfl, c1, c2, c3, c4]
        have f1 : ((root.toNat : Nat) : Int) = root := by omega
        have f2 : ((next.toNat : Nat) : Int) = next := by omega
        have f3 : ((size.toNat : Nat) : Int) = size := by omega
        have f4 : ((idle.toNat : Nat) : Int) = idle := by omega
        simp only [f1, f2, f3, f4]
      · rw [if_neg h3] at hr
        by_cases h4 : kind = 4
        · subst h4
          rw [if_pos rfl] at hr
          obtain ⟨a1, a2, a3⟩ := (freeOk_iff _).1 hr
          obtain ⟨b1, b2, b3⟩ := noL_nil a1
          simp [sameNum] at a3
          simp only at a2 b1 b2 b3
          obtain ⟨⟨rfl, rfl⟩, rfl⟩ := a3
          subst b1 b2 b3
          have c1 : m1R (bodyB ⟨4, [], [], [], 0, next, 0, 0⟩ ++ r) 0 = (next.toNat, r, 0) := by
            unfold m1R bodyB
            dsimp only
            rw [if_neg (by decide), if_neg (by decide), if_neg (by decide), num1]
            exact rnum_of _ _ (by omega) (by omega) _
          show bodyR 4 _ 0 = _
          unfold bodyR frPg
          rw [if_neg (by decide), if_neg (by decide), if_neg (by decide), if_pos rfl, c1]
          have f1 : ((next.toNat : Nat) : Int) = next := by omega
          simp only [f1]
        · rw [if_neg h4] at hr; cases hr

end Go.Proofs.YtbgofajldkblmaaGreat

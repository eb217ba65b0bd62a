/- Pages as bytes: Encode. Own lemmas, no statement. -/
import Derived.Test.YtbgofajldkblmaaGreatPg6
namespace Go.Proofs.YtbgofajldkblmaaGreat
open Go.ChangeShapes Go.WideShapes Go.ChangeAt Go.RowKit

theorem keysOk_size {ks : List ByteArray} (h : keysOk ks = true) (i : Nat) : (ks.getD i .empty).size ≤ 24 := by
  by_cases hi : i < ks.length
  · have := (allB_iff _ _).1 h i hi
    unfold okAt keyOk at this
    simp only [Bool.and_eq_true, decide_eq_true_eq] at this
    omega
  · simp [List.getD, hi]
theorem valsOk_size {ks : List ByteArray} (h : valsOk ks = true) (i : Nat) : (ks.getD i .empty).size ≤ 48 := by
  by_cases hi : i < ks.length
  · have := (allB_iff _ _).1 h i hi
    unfold valAt at this
    simpa using this
  · simp [List.getD, hi]
theorem pageOk_iff (n : Int) : pageOk n = true ↔ 0 ≤ n ∧ n < 65536 := by simp [pageOk]
theorem kidsOk_range {ks : List Int} (h : kidsOk ks = true) (i : Nat) : 0 ≤ ks.getD i 0 ∧ ks.getD i 0 < 65536 := by
  by_cases hi : i < ks.length
  · have := (allB_iff _ _).1 h i hi
    exact (pageOk_iff _).1 this
  · simp [List.getD, hi]

theorem leafOk_iff (p : Pg) : leafOk p = true ↔ p.keys.length ≤ 6 ∧ p.vals.length = p.keys.length ∧ p.kids.length = 0 ∧ sameNum p .zero = true ∧ keysOk p.keys = true ∧ valsOk p.vals = true := by
  simp [leafOk, and_assoc]
theorem innerOk_iff (p : Pg) : innerOk p = true ↔ 2 ≤ p.kids.length ∧ p.kids.length ≤ 8 ∧ p.keys.length + 1 = p.kids.length ∧ p.vals.length = 0 ∧ sameNum p .zero = true ∧ keysOk p.keys = true ∧ kidsOk p.kids = true := by
  simp [innerOk, and_assoc]
theorem metaOk_iff (p : Pg) : metaOk p = true ↔ noL p = true ∧ (0 ≤ p.root ∧ p.root < 65536) ∧ (0 ≤ p.next ∧ p.next < 65536) ∧ 0 ≤ p.size ∧ p.size ≤ 65536 ∧ 0 ≤ p.idle ∧ p.idle ≤ p.size := by
  simp only [metaOk, Bool.and_eq_true, pageOk_iff, decide_eq_true_eq, and_assoc]
theorem freeOk_iff (p : Pg) : freeOk p = true ↔ noL p = true ∧ (0 ≤ p.next ∧ p.next < 65536) ∧ sameNum p ⟨0, [], [], [], 0, p.next, 0, 0⟩ = true := by
  simp only [freeOk, Bool.and_eq_true, pageOk_iff, and_assoc]

/-- A page's bytes. -/
def bodyB (p : Pg) : List UInt8 :=
  if p.kind = 1 then enc p.keys.length ++ leafTo p.keys p.vals p.keys.length
  else if p.kind = 2 then enc p.kids.length ++ innTo p.keys p.kids p.kids.length
  else if p.kind = 3 then numTo [p.root, p.next, p.size, p.idle] 4
  else numTo [p.next] 1
def encP (p : Pg) (lsn : Nat) : List UInt8 := (enc p.kind.toNat ++ enc lsn) ++ bodyB p

def EncPost (p : Pg) (lsn : Nat) (w : World) (e : Ending) (w' : World) : Prop :=
  (if rightPg p then ∃ v, e = .returned (.tuple #[v, .int .i64 0]) ∧ Src w' v (encP p lsn) else e = .returned (.tuple #[.slice none 0 0, .int .i64 1])) ∧ Below w.heap.size w w'

theorem rd_made (w : World) (cs : List Int) (hn : cs.length ≤ maxLen) : Rd (w.alloc (.cells (iv cs).toArray 3)) (.slice (some ⟨w.heap.size, 0, none⟩) cs.length cs.length) (iv cs) := by
  refine ⟨_, cs.length, by rw [iv_length], by rw [iv_length]; exact Nat.le_refl _, hn, fun e => (by cases e), fun ad e j u hu => ?_⟩
  cases e
  rw [Addr.add_mid, Nat.zero_add, Blk.cell (Blk.new _ _ _), List.getElem?_toArray]
  exact hu

theorem getD4 (a b c d : Int) (P : Int → Prop) (h : P a) (h1 : P b) (h2 : P c) (h3 : P d) (h4 : P 0) : ∀ i, P ([a, b, c, d].getD i 0)
  | 0 => h
  | 1 => h1
  | 2 => h2
  | 3 => h3
  | _ + 4 => h4
theorem getD1 (a : Int) (P : Int → Prop) (h : P a) (h4 : P 0) : ∀ i, P ([a].getD i 0)
  | 0 => h
  | _ + 1 => h4

set_option maxRecDepth 10000 in
set_option maxHeartbeats 8000000 in
theorem encode_any (p : Pg) (lsn : Nat) (kv vv dv : Value) (w : World) (hp : PgAt w p kv vv dv) (hok : p.Ok) (hlsn : lsn < 18446744073709551616) :
    Calls Tryz.prog 30 #[pgv p kv vv dv, .int .u64 (lsn : Int)] w (EncPost p lsn w) := by
  have HP : Hid (PgAt w p kv vv dv) := hp
  have HO : Hid p.Ok := hok
  obtain ⟨ka, kc, va, vc, da, dc, rfl, rfl, rfl, b1, b2, b3⟩ := hp.forms
  have HE0 : Hid (∀ o, Below w.heap.size w (w.alloc o)) := fun o => (Below.refl _ _).alloc (Nat.le_refl _) _
  have HB : Hid (∀ kn vn dn, PBox (w.alloc (.cells #[.int .i64 p.kind, .slice ka kn kc, .slice va vn vc, .slice da dn dc, .int .i64 p.root, .int .i64 p.next, .int .i64 p.size, .int .i64 p.idle] 47)) w.heap.size p (.slice ka kn kc) (.slice va vn vc) (.slice da dn dc)) := fun kn vn dn => pbox_new _ _ _ _ _
  have H1 : Hid (∀ W, Below w.heap.size w W → Calls Tryz.prog 25 #[pgv p (.slice ka p.keys.length kc) (.slice va p.vals.length vc) (.slice da p.kids.length dc)] W fun e w' => e = .returned (.bool (rightPg p)) ∧ Below W.heap.size W w') := fun W hW => right_any p _ _ _ W (HP.out.below hW) HO.out
  have HPL : Hid (∀ kn vn dn, kn = p.keys.length → vn = p.vals.length → dn = p.kids.length → PgAt w p (.slice ka kn kc) (.slice va vn vc) (.slice da dn dc)) := fun kn vn dn e1 e2 e3 => by rw [e1, e2, e3]; exact HP.out
  have HF1 : Hid (rightPg p = true → p.kind = 1 → p.keys.length ≤ 20 ∧ p.vals.length = p.keys.length ∧ (∀ i, (p.keys.getD i .empty).size ≤ 24) ∧ (∀ i, (p.vals.getD i .empty).size ≤ 48)) := fun h hk => by
    rw [rightPg, if_pos hk] at h
    obtain ⟨h1, h2, _, _, h5, h6⟩ := (leafOk_iff p).1 h
    exact ⟨by omega, h2, keysOk_size h5, valsOk_size h6⟩
  have HF2 : Hid (rightPg p = true → p.kind = 2 → p.kids.length ≤ 20 ∧ p.keys.length + 1 = p.kids.length ∧ (∀ i, (p.keys.getD i .empty).size ≤ 24) ∧ (∀ i, 0 ≤ p.kids.getD i 0 ∧ p.kids.getD i 0 < 9223372036854775808)) := fun h hk => by
    rw [rightPg, if_neg (by omega), if_pos hk] at h
    obtain ⟨h1, h2, h3, _, _, h5, h6⟩ := (innerOk_iff p).1 h
    refine ⟨by omega, h3, keysOk_size h5, fun i => ?_⟩
    have := kidsOk_range h6 i
    omega
  have HF3 : Hid (rightPg p = true → p.kind = 3 → (0 ≤ p.root ∧ p.root < 65537) ∧ (0 ≤ p.next ∧ p.next < 65537) ∧ (0 ≤ p.size ∧ p.size < 65537) ∧ (0 ≤ p.idle ∧ p.idle < 65537)) := fun h hk => by
    rw [rightPg, if_neg (by omega), if_neg (by omega), if_pos hk] at h
    have := (metaOk_iff p).1 h
    omega
  have HF4 : Hid (rightPg p = true → ¬ p.kind = 1 → ¬ p.kind = 2 → ¬ p.kind = 3 → p.kind = 4 ∧ (0 ≤ p.next ∧ p.next < 65537)) := fun h h1 h2 h3 => by
    rw [rightPg, if_neg h1, if_neg h2, if_neg h3] at h
    by_cases h4 : p.kind = 4
    · rw [if_pos h4] at h
      have := (freeOk_iff p).1 h
      exact ⟨h4, by omega⟩
    · rw [if_neg h4] at h; cases h
  clear hp hok HP HO
  obtain ⟨r, hr⟩ : ∃ r, rightPg p = r := ⟨_, rfl⟩
  have HRR : Hid (rightPg p = r) := hr
  have HPost : Hid (∀ e w', (if r then ∃ v, e = .returned (.tuple #[v, .int .i64 0]) ∧ Src w' v (encP p lsn) else e = .returned (.tuple #[.slice none 0 0, .int .i64 1])) → Below w.heap.size w w' → EncPost p lsn w e w') := fun e w' h1 h2 => ⟨by rw [hr]; exact h1, h2⟩
  rw [hr] at H1 HF1 HF2 HF3 HF4
  clear hr
  obtain ⟨kn, hkn⟩ : ∃ n, n = p.keys.length := ⟨_, rfl⟩
  obtain ⟨vn, hvn⟩ : ∃ n, n = p.vals.length := ⟨_, rfl⟩
  obtain ⟨dn, hdn⟩ : ∃ n, n = p.kids.length := ⟨_, rfl⟩
  rw [← hkn, ← hvn, ← hdn] at H1 ⊢
  have PL : Hid (PgAt w p (.slice ka kn kc) (.slice va vn vc) (.slice da dn dc)) := HPL.out _ _ _ hkn hvn hdn
  clear HPL hkn hvn hdn b1 b2 b3
  have HKK : Hid (∀ i : Int, (p.kind == i) = decide (p.kind = i)) := fun i => rfl
  cases r with
  | false =>
    unfold pgv at *
    go_enter Tryz.func30, Tryz.ntmps30
    go_wp2_with fail
    refine (H1.out _ (HE0.out _)).mono ?_
    rintro e w1 ⟨rfl, y⟩
    have Y : Hid (Below w.heap.size w w1) := ext_trans (HE0.out _) y
    clear y
    go_wp2
    go_ret2
    exact HPost.out _ _ rfl Y.out
  | true =>
    have hkk : ∃ K : Nat, p.kind = (K : Int) ∧ 1 ≤ K ∧ K ≤ 4 := by
      have h4 := HF4.out (by trivial)
      by_cases h1 : p.kind = 1
      · exact ⟨1, h1, by omega, by omega⟩
      · by_cases h2 : p.kind = 2
        · exact ⟨2, h2, by omega, by omega⟩
        · by_cases h3 : p.kind = 3
          · exact ⟨3, h3, by omega, by omega⟩
          · exact ⟨4, (h4 h1 h2 h3).1, by omega, by omega⟩
    obtain ⟨K, hK, hK1, hK4⟩ := hkk
    have HK : Hid (p.kind = (K : Int)) := hK
    have H1' : Hid (∀ W, Below w.heap.size w W → Calls Tryz.prog 25 #[.agg #[.int .i64 (K : Int), .slice ka kn kc, .slice va vn vc, .slice da dn dc, .int .i64 p.root, .int .i64 p.next, .int .i64 p.size, .int .i64 p.idle]] W fun e w' => e = .returned (.bool true) ∧ Below W.heap.size W w') := by
      have := H1.out
      unfold pgv at this
      rw [hK] at this
      exact this
    have HB' : Hid (PBox (w.alloc (.cells #[.int .i64 (K : Int), .slice ka kn kc, .slice va vn vc, .slice da dn dc, .int .i64 p.root, .int .i64 p.next, .int .i64 p.size, .int .i64 p.idle] 47)) w.heap.size p (.slice ka kn kc) (.slice va vn vc) (.slice da dn dc)) := by
      have := HB.out kn vn dn
      rw [hK] at this
      exact this
    have HV : Hid (∀ W, PgAt W p (.slice ka kn kc) (.slice va vn vc) (.slice da dn dc) → PgAt W p (.slice ka kn kc) (.slice va vn vc) (.slice da dn dc)) := fun W h => h
    unfold pgv
    rw [hK]
    clear H1 HB hK
    go_enter Tryz.func30, Tryz.ntmps30
    go_wp2_with fail
    refine (H1'.out _ (HE0.out _)).mono ?_
    rintro e w1 ⟨rfl, y⟩
    have Y : Hid (Below w.heap.size w w1) := ext_trans (HE0.out _) y
    have B1 : Hid (PBox w1 w.heap.size p (.slice ka kn kc) (.slice va vn vc) (.slice da dn dc)) := HB'.out.below y
    clear y HB' H1' HE0
    have zz := B1.out.cells
    have z0 := zz.1
    rw [HK.out] at z0
    clear zz
    go_wp2_with fail
    refine (put_any none 0 0 [] K w1 (Src.nil _) (by omega) (by simp)).mono ?_
    rintro e w2 ⟨g2, cap2, rfl, hown, hb2⟩
    have Y2 : Hid (Below w.heap.size w w2) := ext_trans Y.out hb2
    have B2 : Hid (PBox w2 w.heap.size p (.slice ka kn kc) (.slice va vn vc) (.slice da dn dc)) := B1.out.below hb2
    have HC2 : Hid (Calls Tryz.prog 28 #[.slice (some ⟨g2, 0, none⟩) (join [] (enc K)).length cap2, .int .u64 (lsn : Int)] w2 (Gives w2 (join (join [] (enc K)) (enc lsn)))) := put_any _ _ cap2 _ lsn w2 hown.src hlsn (by rw [join_length]; have := enc_length K; simp; omega)
    generalize (join [] (enc K)).length = L2 at *
    clear hown hb2 z0 B1 Y
    go_wp2_with fail
    refine HC2.out.mono ?_
    rintro e w3 ⟨g3, cap3, rfl, hown, hb3⟩
    have Y3 : Hid (Below w.heap.size w w3) := ext_trans Y2.out hb3
    have B3 : Hid (PBox w3 w.heap.size p (.slice ka kn kc) (.slice va vn vc) (.slice da dn dc)) := B2.out.below hb3
    have S3 : Hid (Src w3 (.slice (some ⟨g3, 0, none⟩) (join (join [] (enc K)) (enc lsn)).length cap3) (enc K ++ enc lsn)) := by
      have := hown.src
      show Src _ _ _
      simpa [join] using this
    have HL3 : Hid ((enc K ++ enc lsn).length ≤ 10000) := by
      show _ ≤ _
      have := enc_length K
      have := enc_length lsn
      rw [List.length_append]; omega
    generalize (join (join [] (enc K)) (enc lsn)).length = L3 at *
    clear hown hb3 HC2 B2 Y2
    obtain ⟨z0, z1, z2, z3, z4, z5, z6, z7⟩ := B3.out.cells
    rw [HK.out] at z0
    have P3 : Hid (PgAt w3 p (.slice ka kn kc) (.slice va vn vc) (.slice da dn dc)) := PL.out.below Y3.out
    clear PL
    have HEnc : Hid (encP p lsn = (enc K ++ enc lsn) ++ bodyB p) := by show _ = _; rw [encP, HK.out]; rfl
    rcases (show K = 1 ∨ K = 2 ∨ K = 3 ∨ K = 4 by omega) with hc | hc | hc | hc
    · subst hc
      obtain ⟨f1, f2, f3, f4⟩ := HF1.out (by trivial) (by rw [HK.out]; rfl)
      have HC : Hid (Calls Tryz.prog 74 #[.slice (some ⟨g3, 0, none⟩) L3 cap3, .agg #[.int .i64 p.kind, .slice ka kn kc, .slice va vn vc, .slice da dn dc, .int .i64 p.root, .int .i64 p.next, .int .i64 p.size, .int .i64 p.idle]] w3 (BytesP w3 (((enc 1 ++ enc lsn) ++ enc p.keys.length) ++ leafTo p.keys p.vals p.keys.length))) := layLeaf_any p _ _ _ _ _ w3 S3.out P3.out f1 f2 f3 f4 HL3.out
      rw [HK.out] at HC
      clear f1 f2 f3 f4 HF1 HF2 HF3 HF4
      go_wp2_with fail
      refine HC.out.mono ?_
      rintro e w4 ⟨v, rfl, hs, hb⟩
      have HR : Hid (Src w4 v (encP p lsn)) := by
        show Src _ _ _
        rw [HEnc.out, bodyB, if_pos (show p.kind = _ by rw [HK.out]; rfl), ← List.append_assoc]; exact hs
      have Y4 : Hid (Below w.heap.size w w4) := ext_trans Y3.out hb
      clear hs hb z0 z1 z2 z3 z4 z5 z6 z7
      go_wp2
      go_ret2
      exact HPost.out _ _ ⟨_, rfl, HR.out⟩ Y4.out
    · subst hc
      obtain ⟨f1, f2, f3, f4⟩ := HF2.out (by trivial) (by rw [HK.out]; rfl)
      have HC : Hid (Calls Tryz.prog 75 #[.slice (some ⟨g3, 0, none⟩) L3 cap3, .agg #[.int .i64 p.kind, .slice ka kn kc, .slice va vn vc, .slice da dn dc, .int .i64 p.root, .int .i64 p.next, .int .i64 p.size, .int .i64 p.idle]] w3 (BytesP w3 (((enc 2 ++ enc lsn) ++ enc p.kids.length) ++ innTo p.keys p.kids p.kids.length))) := layInner_any p _ _ _ _ _ w3 S3.out P3.out f1 f2 f3 f4 HL3.out
      rw [HK.out] at HC
      clear f1 f2 f3 f4 HF1 HF2 HF3 HF4
      go_wp2_with fail
      refine HC.out.mono ?_
      rintro e w4 ⟨v, rfl, hs, hb⟩
      have HR : Hid (Src w4 v (encP p lsn)) := by
        show Src _ _ _
        rw [HEnc.out, bodyB, if_neg (by rw [HK.out]; omega), if_pos (show p.kind = _ by rw [HK.out]; rfl), ← List.append_assoc]; exact hs
      have Y4 : Hid (Below w.heap.size w w4) := ext_trans Y3.out hb
      clear hs hb z0 z1 z2 z3 z4 z5 z6 z7
      go_wp2
      go_ret2
      exact HPost.out _ _ ⟨_, rfl, HR.out⟩ Y4.out
    · subst hc
      obtain ⟨f1, f2, f3, f4⟩ := HF3.out (by trivial) (by rw [HK.out]; rfl)
      have hx : Below w3.heap.size w3 (w3.alloc (.cells #[.int .i64 p.root, .int .i64 p.next, .int .i64 p.size, .int .i64 p.idle] 3)) := (Below.refl _ _).alloc (Nat.le_refl _) _
      have HC : Hid (Calls Tryz.prog 76 #[.slice (some ⟨g3, 0, none⟩) L3 cap3, .slice (some ⟨w3.heap.size, 0, none⟩) 4 4] (w3.alloc (.cells #[.int .i64 p.root, .int .i64 p.next, .int .i64 p.size, .int .i64 p.idle] 3)) (BytesP (w3.alloc (.cells #[.int .i64 p.root, .int .i64 p.next, .int .i64 p.size, .int .i64 p.idle] 3)) ((enc 3 ++ enc lsn) ++ numTo [p.root, p.next, p.size, p.idle] 4))) :=
        layNumbers_any _ _ _ [p.root, p.next, p.size, p.idle] _ (S3.out.below hx) (rd_made w3 [p.root, p.next, p.size, p.idle] (by simp [maxLen])) (by simp) (getD4 _ _ _ _ (fun x => 0 ≤ x ∧ x < 9223372036854775808) (by omega) (by omega) (by omega) (by omega) (by omega)) HL3.out
      have Y3' : Hid (Below w.heap.size w (w3.alloc (.cells #[.int .i64 p.root, .int .i64 p.next, .int .i64 p.size, .int .i64 p.idle] 3))) := ext_trans Y3.out hx
      clear f1 f2 f3 f4 HF1 HF2 HF3 HF4 hx
      go_wp2_with fail
      refine HC.out.mono ?_
      rintro e w4 ⟨v, rfl, hs, hb⟩
      have HR : Hid (Src w4 v (encP p lsn)) := by
        show Src _ _ _
        rw [HEnc.out, bodyB, if_neg (by rw [HK.out]; omega), if_neg (by rw [HK.out]; omega), if_pos (show p.kind = _ by rw [HK.out]; rfl)]; exact hs
      have Y4 : Hid (Below w.heap.size w w4) := ext_trans Y3'.out hb
      clear hs hb z0 z1 z2 z3 z4 z5 z6 z7
      go_wp2
      go_ret2
      exact HPost.out _ _ ⟨_, rfl, HR.out⟩ Y4.out
    · subst hc
      obtain ⟨_, f1⟩ := HF4.out (by trivial) (by rw [HK.out]; omega) (by rw [HK.out]; omega) (by rw [HK.out]; omega)
      have hx : Below w3.heap.size w3 (w3.alloc (.cells #[.int .i64 p.next] 3)) := (Below.refl _ _).alloc (Nat.le_refl _) _
      have HC : Hid (Calls Tryz.prog 76 #[.slice (some ⟨g3, 0, none⟩) L3 cap3, .slice (some ⟨w3.heap.size, 0, none⟩) 1 1] (w3.alloc (.cells #[.int .i64 p.next] 3)) (BytesP (w3.alloc (.cells #[.int .i64 p.next] 3)) ((enc 4 ++ enc lsn) ++ numTo [p.next] 1))) :=
        layNumbers_any _ _ _ [p.next] _ (S3.out.below hx) (rd_made w3 [p.next] (by simp [maxLen])) (by simp) (getD1 _ (fun x => 0 ≤ x ∧ x < 9223372036854775808) (by omega) (by omega)) HL3.out
      have Y3' : Hid (Below w.heap.size w (w3.alloc (.cells #[.int .i64 p.next] 3))) := ext_trans Y3.out hx
      clear f1 HF1 HF2 HF3 HF4 hx
      go_wp2_with fail
      refine HC.out.mono ?_
      rintro e w4 ⟨v, rfl, hs, hb⟩
      have HR : Hid (Src w4 v (encP p lsn)) := by
        show Src _ _ _
        rw [HEnc.out, bodyB, if_neg (by rw [HK.out]; omega), if_neg (by rw [HK.out]; omega), if_neg (by rw [HK.out]; omega)]; exact hs
      have Y4 : Hid (Below w.heap.size w w4) := ext_trans Y3'.out hb
      clear hs hb z0 z1 z2 z3 z4 z5 z6 z7
      go_wp2
      go_ret2
      exact HPost.out _ _ ⟨_, rfl, HR.out⟩ Y4.out
end Go.Proofs.YtbgofajldkblmaaGreat

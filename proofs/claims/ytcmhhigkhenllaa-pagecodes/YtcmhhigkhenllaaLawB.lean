/- The law's own bytes: what it comes to. Own lemmas, no statement. -/
import Derived.Test.YtcmhhigkhenllaaPg8
import Derived.Deep.Cut
namespace Go.Proofs.Ytcmhhigkhenllaa
open Go.ChangeShapes Go.WideShapes Go.ChangeAt Go.RowKit

theorem txt_any (v : Value) (l : List UInt8) (s : ByteArray) (w : World) (hv : Src w v l) (hl : l.length + s.size < 800000000000) : Calls Try.prog 49 #[v, .string s] w (BytesP w (l ++ txt s)) := by
  obtain ⟨ao, c, rfl⟩ := hv.form
  refine (text_any ao _ c l s w hv (by omega)).mono ?_
  rintro e w1 ⟨g, cap, rfl, hown, hb⟩
  refine ⟨_, rfl, ?_, hb⟩
  have := hown.src
  simpa [join, txt, List.append_assoc] using this
theorem num_put (v : Value) (l : List UInt8) (N : Nat) (w : World) (hv : Src w v l) (hN : N < 18446744073709551616) (hl : l.length < 800000000000) : Calls Try.prog 39 #[v, .int .u64 (N : Int)] w (BytesP w (l ++ enc N)) := by
  obtain ⟨ao, c, rfl⟩ := hv.form
  refine (put_any ao _ c l N w hv hN (by omega)).mono ?_
  rintro e w1 ⟨g, cap, rfl, hown, hb⟩
  exact ⟨_, rfl, hown.src, hb⟩

set_option maxRecDepth 100000 in
set_option maxHeartbeats 16000000 in
theorem lawBytes_any (p : Pg) (lsn : Nat) (kv vv dv : Value) (w : World) (hp : PgAt w p kv vv dv) (hr : rightPg p = true) (hlsn : lsn < 18446744073709551616) :
    Calls Try.prog 20 #[pgv p kv vv dv, .int .u64 (lsn : Int)] w (BytesP w (encP p lsn)) := by
  obtain ⟨ka, kc, va, vc, da, dc, rfl, rfl, rfl, b1, b2, b3⟩ := hp.forms
  have HP0 : Hid (PgAt w p (.slice ka p.keys.length kc) (.slice va p.vals.length vc) (.slice da p.kids.length dc)) := hp
  obtain ⟨kn, hkn⟩ : ∃ n, p.keys.length = n := ⟨_, rfl⟩
  obtain ⟨vn, hvn⟩ : ∃ n, p.vals.length = n := ⟨_, rfl⟩
  obtain ⟨dn, hdn⟩ : ∃ n, p.kids.length = n := ⟨_, rfl⟩
  have HKN : Hid (p.keys.length = kn) := hkn
  have HVN : Hid (p.vals.length = vn) := hvn
  have HDN : Hid (p.kids.length = dn) := hdn
  rw [hkn, hvn, hdn] at HP0 ⊢
  have HRT : Hid (rightPg p = true) := hr
  clear hp hkn hvn hdn b1 b2 b3 hr
  have hkk : ∃ K : Nat, p.kind = (K : Int) ∧ 1 ≤ K ∧ K ≤ 4 := by
    have hr := HRT.out
    unfold rightPg at hr
    split at hr
    · exact ⟨1, by assumption, by omega, by omega⟩
    · split at hr
      · exact ⟨2, by assumption, by omega, by omega⟩
      · split at hr
        · exact ⟨3, by assumption, by omega, by omega⟩
        · split at hr
          · exact ⟨4, by assumption, by omega, by omega⟩
          · cases hr
  obtain ⟨K, hK, hK1, hK4⟩ := hkk
  have HK : Hid (p.kind = (K : Int)) := hK
  have HEnc : Hid (encP p lsn = (enc K ++ enc lsn) ++ bodyB p) := by show _ = _; rw [encP, hK]; rfl
  obtain ⟨W1, hW1⟩ : ∃ W, W = w.alloc (.cells #[.int .i64 (K : Int), .slice ka kn kc, .slice va vn vc, .slice da dn dc, .int .i64 p.root, .int .i64 p.next, .int .i64 p.size, .int .i64 p.idle] 25) := ⟨_, rfl⟩
  have HB : Hid (PBox W1 w.heap.size p (.slice ka kn kc) (.slice va vn vc) (.slice da dn dc)) := by rw [hW1, ← hK]; exact pbox_new _ _ _ _ _
  have HE : Hid (Below w.heap.size w W1) := by rw [hW1]; exact (Below.refl _ _).alloc (Nat.le_refl _) _
  unfold pgv
  rw [hK]
  clear hK
  go_enter Try.func20, Try.ntmps20
  go_upto_region 1 with fail
  rw [← hW1]
  clear hW1
  have zz := HB.out.cells
  have z0 := zz.1
  rw [HK.out] at z0
  clear zz
  go_wp2_with fail
  refine (num_put _ [] K W1 (Src.nil _) (by omega) (by simp)).mono ?_
  rintro e w2 ⟨v2, rfl, hs2, y⟩
  have Y2 : Hid (Below w.heap.size w w2) := ext_trans HE.out y
  have B2 : Hid (PBox w2 w.heap.size p (.slice ka kn kc) (.slice va vn vc) (.slice da dn dc)) := HB.out.below y
  have S2 : Hid (Src w2 v2 ([] ++ enc K)) := hs2
  clear hs2 y z0 HB HE
  go_wp2_with fail
  refine (num_put v2 _ lsn w2 S2.out hlsn (by have := enc_length K; simp; omega)).mono ?_
  rintro e w3 ⟨v3, rfl, hs3, y⟩
  have Y3 : Hid (Below w.heap.size w w3) := ext_trans Y2.out y
  have B3 : Hid (PBox w3 w.heap.size p (.slice ka kn kc) (.slice va vn vc) (.slice da dn dc)) := B2.out.below y
  have S3 : Hid (Src w3 v3 (enc K ++ enc lsn)) := by show Src _ _ _; simpa using hs3
  have HL3 : Hid ((enc K ++ enc lsn).length ≤ 20) := by
    show _ ≤ _
    have := enc_length K
    have := enc_length lsn
    rw [List.length_append]; omega
  clear hs3 y S2 B2 Y2
  have P3 : Hid (PgAt w3 p (.slice ka kn kc) (.slice va vn vc) (.slice da dn dc)) := HP0.out.below Y3.out
  clear HP0
  obtain ⟨z0, z1, z2, z3, z4, z5, z6, z7⟩ := B3.out.cells
  rw [HK.out] at z0
  have HRR : Hid _ := HRT.out
  unfold rightPg at HRR
  rcases (show K = 1 ∨ K = 2 ∨ K = 3 ∨ K = 4 by omega) with hc | hc | hc | hc
  · subst hc
    rw [if_pos (show p.kind = 1 by rw [HK.out]; rfl)] at HRR
    obtain ⟨a1, a2, _, _, a5, a6⟩ := (leafOk_iff p).1 HRR.out
    have HKS : Hid (∀ i, (p.keys.getD i .empty).size ≤ 24) := keysOk_size a5
    have HVS : Hid (∀ i, (p.vals.getD i .empty).size ≤ 48) := valsOk_size a6
    have hkv : vn = kn := by have := HKN.out; have := HVN.out; omega
    have hk6 : kn ≤ 6 := by have := HKN.out; omega
    subst hkv
    have HBD : Hid (encP p lsn = ((enc 1 ++ enc lsn) ++ enc vn) ++ leafTo p.keys p.vals vn) := by
      show _ = _
      rw [HEnc.out, bodyB, if_pos (show p.kind = 1 by rw [HK.out]; rfl), HKN.out, List.append_assoc (enc 1 ++ enc lsn)]
    clear a1 a2 a5 a6 HRR HEnc HRT
    go_wp2_with fail
    refine (num_put v3 _ vn w3 S3.out (by omega) (by have := HL3.out; omega)).mono ?_
    rintro e w4 ⟨v4, rfl, hs4, y⟩
    have Y4 : Hid (Below w.heap.size w w4) := ext_trans Y3.out y
    have B4 : Hid (PBox w4 w.heap.size p (.slice ka vn kc) (.slice va vn vc) (.slice da dn dc)) := B3.out.below y
    have P4 : Hid (PgAt w4 p (.slice ka vn kc) (.slice va vn vc) (.slice da dn dc)) := P3.out.below y
    have S4 : Hid (Src w4 v4 (((enc 1 ++ enc lsn) ++ enc vn) ++ leafTo p.keys p.vals 0)) := by
      show Src _ _ _
      rw [leafTo, List.append_nil]; exact hs4
    have HL4 : Hid (((enc 1 ++ enc lsn) ++ enc vn).length ≤ 30) := by
      show _ ≤ _
      have := HL3.out
      have := enc_length vn
      rw [List.length_append]; omega
    generalize ((enc 1 ++ enc lsn) ++ enc vn) = Q at *
    clear hs4 y z0 z1 z2 z3 z4 z5 z6 z7 B3 P3 S3 Y3 HL3
    obtain ⟨z0, z1, z2, z3, z4, z5, z6, z7⟩ := B4.out.cells
    clear z0 z2 z3 z4 z5 z6 z7
    go_wp2
    clear z1
    go_loopw [5, 6, 27] (fun vb _ i wr => ∃ j : Nat, i = .int .i64 j ∧ j ≤ vn ∧ Src wr vb (Q ++ leafTo p.keys p.vals j) ∧ Ext w4 wr) (fun _ _ i _ => vn - (intOf i).toNat)
    case atStart => exact ⟨0, rfl, Nat.zero_le _, S4.out, Ext.refl _⟩
    case round =>
      obtain ⟨j, rfl, hj, hs, hE⟩ := hrel
      obtain ⟨ba, bc, hb⟩ := hs.form
      subst hb
      have SJ : Hid (Src wr _ (Q ++ leafTo p.keys p.vals j)) := hs
      have EJ : Hid (Ext w4 wr) := hE
      have HLEN : Hid ((Q ++ leafTo p.keys p.vals j).length ≤ 1000) := by
        show _ ≤ _
        have h1 := leafTo_length p.keys p.vals HKS.out HVS.out j
        have h2 := HL4.out
        rw [List.length_append]; omega
      clear hs hE S4
      generalize (Q ++ leafTo p.keys p.vals j).length = LQ at *
      by_cases hlt : j < vn
      · have hlt1 : j < p.keys.length := by have := HKN.out; omega
        have hlt2 : j < p.vals.length := by have := HVN.out; omega
        have hx1 := HKS.out j
        have hx2 := HVS.out j
        rw [getD_of hlt1] at hx1
        rw [getD_of hlt2] at hx2
        have HT : Hid (leafTo p.keys p.vals (j + 1) = leafTo p.keys p.vals j ++ (txt p.keys[j] ++ txt p.vals[j])) := by show _ = _; rw [leafTo, getD_of hlt1, getD_of hlt2]
        have ha := P4.out.keys.at.2.2.2
        obtain ⟨ad, had⟩ := ha.ad (by rw [sv_length]; omega)
        subst had
        have ha2 := P4.out.vals.at.2.2.2
        obtain ⟨ae, hae⟩ := ha2.ad (by rw [sv_length]; omega)
        subst hae
        have y0 := ha.str rfl hlt1
        have y1 : wr.cell? (ad.add j) = some (.string p.keys[j]) := (Below.cell EJ.out (cell_lt y0)).trans y0
        have y2 : Hid (∀ W, Ext w4 W → W.cell? (ae.add j) = some (.string p.vals[j])) := fun W hW => (Below.cell hW (cell_lt (ha2.str rfl hlt2))).trans (ha2.str rfl hlt2)
        have BJ := (B4.out.below EJ.out).cells.2.1
        have HBV : Hid (∀ W, Ext w4 W → W.cell? ⟨w.heap.size, 2, none⟩ = some (.slice (some ae) vn vc)) := fun W hW => (B4.out.below hW).cells.2.2.1
        have SJ2 : Hid (∀ q, q = Q ++ leafTo p.keys p.vals j → Src wr (.slice ba LQ bc) q) := fun q hq => by rw [hq]; exact SJ.out
        generalize p.keys[j] = s1 at *
        generalize p.vals[j] = s2 at *
        clear hlt1 hlt2 y0 ha ha2
        have HLB : Hid ((Q ++ leafTo p.keys p.vals j).length ≤ 1000) := by
          show _ ≤ _
          have h1 := leafTo_length p.keys p.vals HKS.out HVS.out j
          have h2 := HL4.out
          rw [List.length_append]; omega
        go_wp2_with fail
        refine (txt_any (.slice ba LQ bc) _ s1 wr SJ.out (by have := HLB.out; omega)).mono ?_
        rintro e w5 ⟨v5, rfl, hs5, y⟩
        have S5 : Hid (Src w5 v5 ((Q ++ leafTo p.keys p.vals j) ++ txt s1)) := hs5
        have E5 : Hid (Ext w4 w5) := EJ.out.trans y
        have q1 := y2.out w5 E5.out
        have q2 := HBV.out w5 E5.out
        clear hs5 y y1 BJ SJ SJ2
        go_wp2_with fail
        refine (txt_any v5 _ s2 w5 S5.out (by have := HLB.out; have := txt_length s1; rw [List.length_append]; omega)).mono ?_
        rintro e w6 ⟨v6, rfl, hs6, y⟩
        have S6 : Hid (Src w6 v6 (Q ++ leafTo p.keys p.vals (j + 1))) := by
          show Src _ _ _
          rw [HT.out]
          simpa [List.append_assoc] using hs6
        have E6 : Hid (Ext w4 w6) := E5.out.trans y
        clear hs6 y q1 q2 S5 y2 HBV HT
        go_wp2
        go_roundw
        case rel => exact ⟨j + 1, by go_num, by omega, S6.out, E6.out⟩
        case measure => simp [intOf]; omega
      · have hjn : j = vn := by omega
        subst hjn
        go_wp2
        go_ret
        exact ⟨_, rfl, by rw [HBD.out]; exact SJ.out, ext_trans Y4.out EJ.out⟩
  · subst hc
    rw [if_neg (show ¬ p.kind = 1 by rw [HK.out]; omega), if_pos (show p.kind = 2 by rw [HK.out]; rfl)] at HRR
    obtain ⟨a1, a2, a3, _, _, a5, a6⟩ := (innerOk_iff p).1 HRR.out
    have HKS : Hid (∀ i, (p.keys.getD i .empty).size ≤ 24) := keysOk_size a5
    have HDS : Hid (∀ i, 0 ≤ p.kids.getD i 0 ∧ p.kids.getD i 0 < 65536) := kidsOk_range a6
    have hd8 : dn ≤ 8 := by have := HDN.out; omega
    have HDK : Hid (kn + 1 = dn) := by have := HKN.out; have := HDN.out; show _ = _; omega
    have hd1 : 1 ≤ dn := by have := HDN.out; omega
    have hk7 : kn ≤ 7 := by have := HDK.out; omega
    have HBD : Hid (encP p lsn = ((enc 2 ++ enc lsn) ++ enc dn) ++ innTo p.keys p.kids dn) := by
      show _ = _
      rw [HEnc.out, bodyB, if_neg (show ¬ p.kind = 1 by rw [HK.out]; omega), if_pos (show p.kind = 2 by rw [HK.out]; rfl), HDN.out, List.append_assoc (enc 2 ++ enc lsn)]
    clear a1 a2 a3 a5 a6 HRR HEnc HRT
    go_wp2_with fail
    refine (num_put v3 _ dn w3 S3.out (by omega) (by have := HL3.out; omega)).mono ?_
    rintro e w4 ⟨v4, rfl, hs4, y⟩
    have Y4 : Hid (Below w.heap.size w w4) := ext_trans Y3.out y
    have B4 : Hid (PBox w4 w.heap.size p (.slice ka kn kc) (.slice va vn vc) (.slice da dn dc)) := B3.out.below y
    have P4 : Hid (PgAt w4 p (.slice ka kn kc) (.slice va vn vc) (.slice da dn dc)) := P3.out.below y
    have S4 : Hid (Src w4 v4 ((enc 2 ++ enc lsn) ++ enc dn)) := hs4
    have HL4 : Hid (((enc 2 ++ enc lsn) ++ enc dn).length ≤ 30) := by
      show _ ≤ _
      have := HL3.out
      have := enc_length dn
      rw [List.length_append]; omega
    generalize ((enc 2 ++ enc lsn) ++ enc dn) = Q at *
    clear hs4 y z0 z1 z2 z3 z4 z5 z6 z7 B3 P3 S3 Y3 HL3
    have hd0 : 0 < p.kids.length := by have := HDN.out; omega
    have ha := P4.out.kids.at.2.2.2
    obtain ⟨ad, had⟩ := ha.ad (by rw [iv_length]; omega)
    subst had
    have y0 := ha.num rfl hd0
    have hx := HDS.out 0
    rw [getD_of hd0] at hx
    obtain ⟨X0, hX0⟩ : ∃ x : Nat, p.kids[0] = (x : Int) := ⟨p.kids[0].toNat, by omega⟩
    have y0' : w4.cell? ad = some (.int .i64 (X0 : Int)) := by rw [← hX0, ← y0]; simp [Addr.add]
    have HI1 : Hid (innTo p.keys p.kids (0 + 1) = enc X0) := by
      show _ = _
      rw [innTo, getD_of hd0, hX0]; simp [innTo]
    have hX0b : X0 < 65536 := by omega
    have HAI : Hid (RdAt w4 (some ad) dc (iv p.kids)) := ha
    clear y0 hx hX0 hd0 ha
    obtain ⟨z0, z1, z2, z3, z4, z5, z6, z7⟩ := B4.out.cells
    clear z0 z1 z2 z4 z5 z6 z7
    go_wp2_with fail
    refine (num_put v4 _ X0 w4 S4.out (by omega) (by have := HL4.out; omega)).mono ?_
    rintro e w5 ⟨v5, rfl, hs5, y⟩
    have Y5 : Hid (Below w.heap.size w w5) := ext_trans Y4.out y
    have B5 : Hid (PBox w5 w.heap.size p (.slice ka kn kc) (.slice va vn vc) (.slice (some ad) dn dc)) := B4.out.below y
    have P5 : Hid (PgAt w5 p (.slice ka kn kc) (.slice va vn vc) (.slice (some ad) dn dc)) := P4.out.below y
    have S5 : Hid (Src w5 v5 (Q ++ innTo p.keys p.kids (0 + 1))) := by
      show Src _ _ _
      rw [HI1.out]; exact hs5
    clear hs5 y z3 y0' HAI HI1 B4 P4 S4 Y4
    obtain ⟨z0, z1, z2, z3, z4, z5, z6, z7⟩ := B5.out.cells
    clear z0 z2 z3 z4 z5 z6 z7
    go_wp2
    clear z1
    go_loopw [5, 7, 63] (fun vb _ i wr => ∃ j : Nat, i = .int .i64 j ∧ j ≤ kn ∧ Src wr vb (Q ++ innTo p.keys p.kids (j + 1)) ∧ Ext w5 wr) (fun _ _ i _ => kn - (intOf i).toNat)
    case atStart => exact ⟨0, rfl, Nat.zero_le _, S5.out, Ext.refl _⟩
    case round =>
      obtain ⟨j, rfl, hj, hs, hE⟩ := hrel
      obtain ⟨ba, bc, hb⟩ := hs.form
      subst hb
      have SJ : Hid (Src wr _ (Q ++ innTo p.keys p.kids (j + 1))) := hs
      have EJ : Hid (Ext w5 wr) := hE
      have HLB : Hid ((Q ++ innTo p.keys p.kids (j + 1)).length ≤ 1000) := by
        show _ ≤ _
        have h1 := innTo_length p.keys p.kids HKS.out (j + 1)
        have h2 := HL4.out
        rw [List.length_append]; omega
      obtain ⟨LQ, hLQ⟩ : ∃ n, (Q ++ innTo p.keys p.kids (j + 1)).length = n := ⟨_, rfl⟩
      rw [hLQ] at SJ ⊢
      clear hs hE S5 hLQ
      by_cases hlt : j < kn
      · have hlt1 : j < p.keys.length := by have := HKN.out; omega
        obtain ⟨J, hJ⟩ : ∃ J : Nat, J = j + 1 := ⟨_, rfl⟩
        have hlt2 : J < p.kids.length := by have := HDN.out; have := HDK.out; omega
        have hJd : J < dn := by have := HDK.out; omega
        have hJi : (j : Int) + 1 = (J : Int) := by omega
        have hx1 := HKS.out j
        have hx2 := HDS.out J
        rw [getD_of hlt1] at hx1
        rw [getD_of hlt2] at hx2
        obtain ⟨X, hX⟩ : ∃ x : Nat, p.kids[J] = (x : Int) := ⟨p.kids[J].toNat, by omega⟩
        have hXb : X < 65536 := by omega
        have HT : Hid (innTo p.keys p.kids (J + 1) = innTo p.keys p.kids (j + 1) ++ (txt p.keys[j] ++ enc X)) := by
          show _ = _
          rw [hJ, innTo, if_neg (by omega), show j + 1 - 1 = j from rfl, getD_of hlt1]
          rw [show p.kids.getD (j + 1) 0 = p.kids[J] by rw [← hJ]; exact getD_of hlt2, hX]
          rfl
        have ha := P5.out.keys.at.2.2.2
        obtain ⟨ae, hae⟩ := ha.ad (by rw [sv_length]; omega)
        subst hae
        have ha2 := P5.out.kids.at.2.2.2
        have y0 := ha.str rfl hlt1
        have y1 : wr.cell? (ae.add j) = some (.string p.keys[j]) := (Below.cell EJ.out (cell_lt y0)).trans y0
        have y2 : Hid (∀ W, Ext w5 W → W.cell? (ad.add J) = some (.int .i64 (X : Int))) := fun W hW => by rw [← hX]; exact (Below.cell hW (cell_lt (ha2.num rfl hlt2))).trans (ha2.num rfl hlt2)
        have BJ := (B5.out.below EJ.out).cells.2.1
        have HBV : Hid (∀ W, Ext w5 W → W.cell? ⟨w.heap.size, 3, none⟩ = some (.slice (some ad) dn dc)) := fun W hW => (B5.out.below hW).cells.2.2.2.1
        have HJJ : Hid (J = j + 1) := hJ
        generalize p.keys[j] = s1 at *
        clear hlt1 hlt2 y0 ha ha2 hX hJ hx2
        go_wp2_with fail
        refine (txt_any (.slice ba LQ bc) _ s1 wr SJ.out (by have := HLB.out; omega)).mono ?_
        rintro e w6 ⟨v6, rfl, hs6, y⟩
        have S6 : Hid (Src w6 v6 ((Q ++ innTo p.keys p.kids (j + 1)) ++ txt s1)) := hs6
        have E6 : Hid (Ext w5 w6) := EJ.out.trans y
        have q1 := y2.out w6 E6.out
        have q2 := HBV.out w6 E6.out
        clear hs6 y y1 BJ SJ
        go_wp2_with fail
        refine (num_put v6 _ X w6 S6.out (by omega) (by have := HLB.out; have := txt_length s1; rw [List.length_append]; omega)).mono ?_
        rintro e w7 ⟨v7, rfl, hs7, y⟩
        have S7 : Hid (Src w7 v7 (Q ++ innTo p.keys p.kids (J + 1))) := by
          show Src _ _ _
          rw [HT.out]
          simpa [List.append_assoc] using hs7
        have E7 : Hid (Ext w5 w7) := E6.out.trans y
        clear hs7 y q1 q2 S6 y2 HBV HT
        go_wp2
        go_roundw
        case rel => exact ⟨J, rfl, by have := HJJ.out; omega, S7.out, E7.out⟩
        case measure => have := HJJ.out; simp [intOf]; omega
      · have hjn : j = kn := by omega
        subst hjn
        have SF : Hid (∀ x, x = j + 1 → Src wr (.slice ba LQ bc) (Q ++ innTo p.keys p.kids x)) := fun x hx => by rw [hx]; exact SJ.out
        clear SJ
        go_wp2
        go_ret
        exact ⟨_, rfl, by rw [HBD.out]; exact SF.out dn HDK.out.symm, ext_trans Y5.out EJ.out⟩
  · subst hc
    rw [if_neg (show ¬ p.kind = 1 by rw [HK.out]; omega), if_neg (show ¬ p.kind = 2 by rw [HK.out]; omega), if_pos (show p.kind = 3 by rw [HK.out]; rfl)] at HRR
    obtain ⟨_, a2, a3, a4, a5, a6, a7⟩ := (metaOk_iff p).1 HRR.out
    obtain ⟨Xroot, hroot, broot⟩ : ∃ x : Nat, p.root = (x : Int) ∧ x ≤ 65536 := ⟨p.root.toNat, by omega, by omega⟩
    obtain ⟨Xnext, hnext, bnext⟩ : ∃ x : Nat, p.next = (x : Int) ∧ x ≤ 65536 := ⟨p.next.toNat, by omega, by omega⟩
    obtain ⟨Xsize, hsize, bsize⟩ : ∃ x : Nat, p.size = (x : Int) ∧ x ≤ 65536 := ⟨p.size.toNat, by omega, by omega⟩
    obtain ⟨Xidle, hidle, bidle⟩ : ∃ x : Nat, p.idle = (x : Int) ∧ x ≤ 65536 := ⟨p.idle.toNat, by omega, by omega⟩
    have Hroot : Hid (p.root = (Xroot : Int)) := hroot
    have Hnext : Hid (p.next = (Xnext : Int)) := hnext
    have Hsize : Hid (p.size = (Xsize : Int)) := hsize
    have Hidle : Hid (p.idle = (Xidle : Int)) := hidle
    have HBD : Hid (encP p lsn = (enc 3 ++ enc lsn) ++ (enc Xroot ++ (enc Xnext ++ (enc Xsize ++ enc Xidle)))) := by
      show _ = _
      rw [HEnc.out, bodyB, if_neg (show ¬ p.kind = 1 by rw [HK.out]; omega), if_neg (show ¬ p.kind = 2 by rw [HK.out]; omega), if_pos (show p.kind = 3 by rw [HK.out]; rfl), hroot, hnext, hsize, hidle]
      simp [numTo, List.append_assoc]
    clear a2 a3 a4 a5 a6 a7 hroot hnext hsize hidle HRR HEnc HRT
    clear z0 z1 z2 z3 z4 z5 z6 z7
    obtain ⟨z0, z1, z2, z3, z4, z5, z6, z7⟩ := B3.out.cells
    rw [HK.out] at z0
    rw [Hroot.out] at z4
    go_wp2_with fail
    refine (num_put v3 _ Xroot w3 S3.out (by omega) (by have := HL3.out; simp only [List.length_append] at this ⊢;  omega)).mono ?_
    rintro e w4 ⟨v4, rfl, hs, y⟩
    have S4 : Hid (Src w4 v4 _) := hs
    have Y4 : Hid (Below w.heap.size w w4) := ext_trans Y3.out y
    have B4 : Hid (PBox w4 w.heap.size p (.slice ka kn kc) (.slice va vn vc) (.slice da dn dc)) := B3.out.below y
    clear hs y z0 z1 z2 z3 z4 z5 z6 z7
    obtain ⟨z0, z1, z2, z3, z4, z5, z6, z7⟩ := B4.out.cells
    clear z0
    rw [Hnext.out] at z5
    go_wp2_with fail
    refine (num_put v4 _ Xnext w4 S4.out (by omega) (by have := HL3.out; simp only [List.length_append] at this ⊢; have := enc_length Xroot; omega)).mono ?_
    rintro e w5 ⟨v5, rfl, hs, y⟩
    have S5 : Hid (Src w5 v5 _) := hs
    have Y5 : Hid (Below w.heap.size w w5) := ext_trans Y4.out y
    have B5 : Hid (PBox w5 w.heap.size p (.slice ka kn kc) (.slice va vn vc) (.slice da dn dc)) := B4.out.below y
    clear hs y z1 z2 z3 z4 z5 z6 z7
    obtain ⟨z0, z1, z2, z3, z4, z5, z6, z7⟩ := B5.out.cells
    clear z0
    rw [Hsize.out] at z6
    go_wp2_with fail
    refine (num_put v5 _ Xsize w5 S5.out (by omega) (by have := HL3.out; simp only [List.length_append] at this ⊢; have := enc_length Xroot; have := enc_length Xnext; omega)).mono ?_
    rintro e w6 ⟨v6, rfl, hs, y⟩
    have S6 : Hid (Src w6 v6 _) := hs
    have Y6 : Hid (Below w.heap.size w w6) := ext_trans Y5.out y
    have B6 : Hid (PBox w6 w.heap.size p (.slice ka kn kc) (.slice va vn vc) (.slice da dn dc)) := B5.out.below y
    clear hs y z1 z2 z3 z4 z5 z6 z7
    obtain ⟨z0, z1, z2, z3, z4, z5, z6, z7⟩ := B6.out.cells
    clear z0
    rw [Hidle.out] at z7
    go_wp2_with fail
    refine (num_put v6 _ Xidle w6 S6.out (by omega) (by have := HL3.out; simp only [List.length_append] at this ⊢; have := enc_length Xroot; have := enc_length Xnext; have := enc_length Xsize; omega)).mono ?_
    rintro e w7 ⟨v7, rfl, hs, y⟩
    have S7 : Hid (Src w7 v7 _) := hs
    have Y7 : Hid (Below w.heap.size w w7) := ext_trans Y6.out y
    have B7 : Hid (PBox w7 w.heap.size p (.slice ka kn kc) (.slice va vn vc) (.slice da dn dc)) := B6.out.below y
    clear hs y z1 z2 z3 z4 z5 z6 z7
    go_wp2
    go_ret
    exact ⟨_, rfl, by rw [HBD.out]; simpa [List.append_assoc] using S7.out, Y7.out⟩
  · subst hc
    rw [if_neg (show ¬ p.kind = 1 by rw [HK.out]; omega), if_neg (show ¬ p.kind = 2 by rw [HK.out]; omega), if_neg (show ¬ p.kind = 3 by rw [HK.out]; omega), if_pos (show p.kind = 4 by rw [HK.out]; rfl)] at HRR
    obtain ⟨_, a2, _⟩ := (freeOk_iff p).1 HRR.out
    obtain ⟨Xnext, hnext, bnext⟩ : ∃ x : Nat, p.next = (x : Int) ∧ x ≤ 65536 := ⟨p.next.toNat, by omega, by omega⟩
    have Hnext : Hid (p.next = (Xnext : Int)) := hnext
    have HBD : Hid (encP p lsn = (enc 4 ++ enc lsn) ++ enc Xnext) := by
      show _ = _
      rw [HEnc.out, bodyB, if_neg (show ¬ p.kind = 1 by rw [HK.out]; omega), if_neg (show ¬ p.kind = 2 by rw [HK.out]; omega), if_neg (show ¬ p.kind = 3 by rw [HK.out]; omega), hnext]
      simp [numTo]
    clear a2 hnext HRR HEnc HRT
    clear z0 z1 z2 z3 z4 z5 z6 z7
    obtain ⟨z0, z1, z2, z3, z4, z5, z6, z7⟩ := B3.out.cells
    rw [HK.out] at z0
    rw [Hnext.out] at z5
    go_wp2_with fail
    refine (num_put v3 _ Xnext w3 S3.out (by omega) (by have := HL3.out; simp only [List.length_append] at this ⊢;  omega)).mono ?_
    rintro e w4 ⟨v4, rfl, hs, y⟩
    have S4 : Hid (Src w4 v4 _) := hs
    have Y4 : Hid (Below w.heap.size w w4) := ext_trans Y3.out y
    have B4 : Hid (PBox w4 w.heap.size p (.slice ka kn kc) (.slice va vn vc) (.slice da dn dc)) := B3.out.below y
    clear hs y z0 z1 z2 z3 z4 z5 z6 z7
    go_wp2
    go_ret
    exact ⟨_, rfl, by rw [HBD.out]; simpa [List.append_assoc] using S4.out, Y4.out⟩
end Go.Proofs.Ytcmhhigkhenllaa

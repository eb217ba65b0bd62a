/- PageCodes: the walk of the law's Go text. -/
import Derived.Test.YtcmhhigkhenllaaPgOpen
import Derived.Test.YtcmhhigkhenllaaDec5
import Derived.Test.YtcmhhigkhenllaaRd3
import Derived.Test.YtcmhhigkhenllaaLawR
import Derived.Test.YtcmhhigkhenllaaLawB
import Derived.Test.YtcmhhigkhenllaaAppZ
import Derived.Test.YtcmhhigkhenllaaSrcSeg
import Derived.Deep.Cut
namespace Go.Proofs.Ytcmhhigkhenllaa
open Go.ChangeShapes Go.WideShapes Go.ChangeAt Go.RowKit

theorem and_leC (a : Int) (m : Nat) (hm : m < 9223372036854775808) : ∃ i : Nat, i ≤ m ∧ bits .and .i64 a (m : Int) = (i : Int) := by
  have hle : (BitVec.ofInt 64 a &&& BitVec.ofInt 64 (m : Int)).toNat ≤ m := by
    rw [BitVec.toNat_and]
    refine Nat.le_trans Nat.and_le_right ?_
    rw [BitVec.ofInt_natCast, BitVec.toNat_ofNat]
    exact Nat.mod_le _ _
  refine ⟨(BitVec.ofInt 64 a &&& BitVec.ofInt 64 (m : Int)).toNat, hle, ?_⟩
  show IntKind.i64.wrap ((BitVec.ofInt 64 a &&& BitVec.ofInt 64 (m : Int)).toNat : Int) = _
  rw [IntKind.wrap_i64]
  omega

theorem enc_full (p : Pg) (a : Nat) (kv vv dv : Value) (w : World) (hp : PgAt w p kv vv dv) (hok : p.Ok) (ha : a < 18446744073709551616) (r : Bool) (hr : rightPg p = r) :
    Calls Try.prog 17 #[pgv p kv vv dv, .int .u64 (a : Int)] w fun e w' => ∃ ao n c ec, e = .returned (.tuple #[.slice ao n c, .int .i64 ec]) ∧ ((r = true → ec = 0) ∧ (r = false → ec = 1 ∧ n = 0)) ∧ (r = true → Src w' (.slice ao n c) (encP p a)) ∧ Below w.heap.size w w' :=
  (encode_any p a kv vv dv w hp hok ha).mono fun e w' he => by
    obtain ⟨h1, h2⟩ := he
    rw [hr] at h1
    cases r with
    | true =>
      obtain ⟨v, rfl, hs⟩ := h1
      obtain ⟨ao, c, rfl⟩ := hs.form
      exact ⟨ao, _, c, 0, rfl, ⟨fun _ => rfl, fun h => (by cases h)⟩, fun _ => hs, h2⟩
    | false => exact ⟨none, 0, 0, 1, h1, ⟨fun h => (by cases h), fun _ => ⟨rfl, rfl⟩⟩, fun h => (by cases h), h2⟩

theorem wpList_zeros {ops : Array Oper} {rest : List Oper} {o : Oper} {a : Act} {Q : Exit → Act → World → Prop} (w : World) (hgd : o.guard = none) (s x : Operand)
    (ho : o.op = .call { callee := .builtin .append, args := #[s, x], argTypes := #[29, 3] })
    (B : Nat) (v : Value) (l : List UInt8) (n : Nat) (hown : Own w B v l) (hv : v ≠ .slice none 0 0) (hs : a.eval s = v) (hx : a.eval x = .int .i64 (n : Int)) (hl : l.length + n < 1099511627776) (hB : B ≤ w.heap.size)
    (h : ∀ v' w', Own w' B v' (l ++ List.replicate n 0) → w.grownBy w' v.ownBlock → wpList Try.prog ops Q rest (a.put o.dst v') w') : wpList Try.prog ops Q (o :: rest) a w := by
  refine wpList_plain hgd fun K hK => ?_
  obtain ⟨v', w', hr, h2, h3⟩ := run_zeros_own w o.type B v l n hown hv hl hB
  unfold Oper.wp execOp
  simp only [ho, resolve, invoke, builtin, Sem.run_bind, Sem.run_pure, Result.andThen_ok, List.map_toArray, List.map_cons, List.map_nil, hs, hx, hr]
  exact hK _ _ (h v' w' h2 h3)

set_option maxRecDepth 100000 in
set_option maxHeartbeats 16000000 in
theorem walk_PageCodes (p : Pg) (kv vv dv : Value) (lsn more : Int) (w : World) (hp : PgAt w p kv vv dv) (hpo : p.Ok) (hl : (Lit.int .u64 lsn).wf = true) (_hm : (Lit.int .i64 more).wf = true) :
    Calls Try.prog 3 #[pgv p kv vv dv, .int .u64 lsn, .int .i64 more] w fun e w' => e = .returned (.bool true) ∧ Below w.heap.size w w' := by
  have hl' := bounds_u64 hl
  obtain ⟨A, hA, hA64⟩ : ∃ A : Nat, lsn = (A : Int) ∧ A < 18446744073709551616 := ⟨lsn.toNat, by omega, by omega⟩
  subst hA
  obtain ⟨N, hN511, hN⟩ := and_leC more 511 (by omega)
  have hN' : bits BinOp.and IntKind.i64 more 511 = (N : Int) := hN
  clear hN hl hl'
  have HP : Hid (PgAt w p kv vv dv) := hp
  have HPO : Hid p.Ok := hpo
  obtain ⟨ka, kc, va, vc, da, dc, rfl, rfl, rfl, _, _, _⟩ := hp.forms
  clear hp hpo
  generalize p.keys.length = kn at *
  generalize p.vals.length = vn at *
  generalize p.kids.length = dn at *
  have HE0 : Hid (∀ o, Below w.heap.size w (w.alloc o)) := fun o => (Below.refl _ _).alloc (Nat.le_refl _) _
  have HB0 : Hid (PBox (w.alloc (.cells #[.int .i64 p.kind, .slice ka kn kc, .slice va vn vc, .slice da dn dc, .int .i64 p.root, .int .i64 p.next, .int .i64 p.size, .int .i64 p.idle] 25)) w.heap.size p (.slice ka kn kc) (.slice va vn vc) (.slice da dn dc)) := pbox_new _ _ _ _ _
  obtain ⟨rp, hrp⟩ : ∃ r, rightPg p = r := ⟨_, rfl⟩
  have HRP : Hid (rightPg p = rp) := hrp
  clear hrp
  have HRI : Hid (∀ W, Below w.heap.size w W → Calls Try.prog 18 #[.agg #[.int .i64 p.kind, .slice ka kn kc, .slice va vn vc, .slice da dn dc, .int .i64 p.root, .int .i64 p.next, .int .i64 p.size, .int .i64 p.idle]] W fun e w' => e = .returned (.bool rp) ∧ Below W.heap.size W w') := fun W hW => by rw [← HRP.out]; exact right_any p _ _ _ W (HP.out.below hW) HPO.out
  have HLR : Hid (∀ W, Below w.heap.size w W → Calls Try.prog 19 #[.agg #[.int .i64 p.kind, .slice ka kn kc, .slice va vn vc, .slice da dn dc, .int .i64 p.root, .int .i64 p.next, .int .i64 p.size, .int .i64 p.idle]] W fun e w' => e = .returned (.bool rp) ∧ Below W.heap.size W w') := fun W hW => by rw [← HRP.out]; exact lawRight_any p _ _ _ W (HP.out.below hW) HPO.out
  unfold pgv
  go_enter Try.func3, Try.ntmps3
  go_wp2_with fail
  refine (head6_any _).mono ?_
  rintro e w1 ⟨rfl, y⟩
  have Y1 : Hid (Below w.heap.size w w1) := ext_trans (HE0.out _) y
  have B1 : Hid (PBox w1 w.heap.size p (.slice ka kn kc) (.slice va vn vc) (.slice da dn dc)) := HB0.out.below y
  clear y HB0 HE0
  obtain ⟨z0, z1, z2, z3, z4, z5, z6, z7⟩ := B1.out.cells
  go_wp2_with fail
  refine (small_any p _ _ _ w1 (HP.out.below Y1.out)).mono ?_
  rintro e w2 ⟨rfl, y⟩
  have Y2 : Hid (Below w.heap.size w w2) := ext_trans Y1.out y
  have B2 : Hid (PBox w2 w.heap.size p (.slice ka kn kc) (.slice va vn vc) (.slice da dn dc)) := B1.out.below y
  clear y z0 z1 z2 z3 z4 z5 z6 z7 B1 Y1
  cases hsm : smallPg p with
  | false =>
    go_wp2
    go_ret
    exact ⟨rfl, Y2.out⟩
  | true =>
    clear hsm
    obtain ⟨z0, z1, z2, z3, z4, z5, z6, z7⟩ := B2.out.cells
    go_wp2_with fail
    refine (enc_full p A _ _ _ w2 (HP.out.below Y2.out) HPO.out hA64 rp HRP.out).mono ?_
    rintro e w3 ⟨ao1, n1, c1, ec, rfl, he, hs1, y⟩
    have E1 : Hid ((rp = true → ec = 0) ∧ (rp = false → ec = 1 ∧ n1 = 0)) := he
    have S1 : Hid (rp = true → Src w3 (.slice ao1 n1 c1) (encP p A)) := hs1
    have Y3 : Hid (Below w.heap.size w w3) := ext_trans Y2.out y
    have B3 : Hid (PBox w3 w.heap.size p (.slice ka kn kc) (.slice va vn vc) (.slice da dn dc)) := B2.out.below y
    clear he hs1 y z0 z1 z2 z3 z4 z5 z6 z7 B2 Y2
    obtain ⟨z0, z1, z2, z3, z4, z5, z6, z7⟩ := B3.out.cells
    have k0 := cellX (W0 := w3.drew) z0
    have k1 := cellX (W0 := w3.drew) z1
    have k2 := cellX (W0 := w3.drew) z2
    have k3 := cellX (W0 := w3.drew) z3
    have k4 := cellX (W0 := w3.drew) z4
    have k5 := cellX (W0 := w3.drew) z5
    have k6 := cellX (W0 := w3.drew) z6
    have k7 := cellX (W0 := w3.drew) z7
    clear z0 z1 z2 z3 z4 z5 z6 z7
    go_wp2_with fail
    haveI nA := cls_ext w3.drew
    refine wp_region_ext (by kernel_rfl) ?_
    refine wpAnyH_seg (by kernel_rfl) (fun _ _ _ h => h) [0, 2] 3 _ _ _ (Ext.refl _) (by kernel_rfl) ?_
    simp only [opsAt, List.getElem?_toArray, List.getElem?_cons_zero, List.getElem?_cons_succ, List.cons_append, List.nil_append]
    repeat (go_big_quiet_step (fail))
    refine wpQuiet_nil ?_
    clear k0 k1 k2 k3 k4 k5 k6 k7 nA
    refine wpAnyH_callE (i := 1) (fuel := 2) 24 rfl (by kernel_rfl) rfl (Ext.refl _) (by kernel_rfl) (by kernel_rfl) (HRI.out w3.drew (Below.drew Y3.out)) ?_
    rintro e w4 ⟨rfl, y⟩
    have Y4 : Hid (Below w.heap.size w w4) := ext_trans (Below.drew Y3.out) y
    have B4 : Hid (PBox w4 w.heap.size p (.slice ka kn kc) (.slice va vn vc) (.slice da dn dc)) := (B3.out.below (Below.drew (Below.refl _ w3))).below y
    have S4 : Hid (rp = true → Src w4 (.slice ao1 n1 c1) (encP p A)) := fun h => ((S1.out h).below (Below.drew (Below.refl _ w3))).below y
    refine ⟨_, rfl, y, ?_⟩
    clear y B3 S1 Y3
    simp only [Act.put, List.setIfInBounds_toArray, List.set_cons_succ, List.set_cons_zero]
    refine wpAnyH_callE (i := 3) (fuel := 1) 26 rfl (by kernel_rfl) rfl (Ext.refl _) (by kernel_rfl) (by kernel_rfl) (HLR.out w4 Y4.out) ?_
    rintro e w5 ⟨rfl, y⟩
    have Y5 : Hid (Below w.heap.size w w5) := ext_trans Y4.out y
    have B5 : Hid (PBox w5 w.heap.size p (.slice ka kn kc) (.slice va vn vc) (.slice da dn dc)) := B4.out.below y
    have S5 : Hid (rp = true → Src w5 (.slice ao1 n1 c1) (encP p A)) := fun h => (S4.out h).below y
    refine ⟨_, rfl, y, ?_⟩
    clear y B4 S4 Y4
    simp only [Act.put, List.setIfInBounds_toArray, List.set_cons_succ, List.set_cons_zero]
    haveI nB := cls_ext w5
    refine wpAnyH_seg (by kernel_rfl) (fun _ _ _ h => h) [4] 0 _ _ _ (Ext.refl _) (by kernel_rfl) ?_
    simp only [opsAt, List.getElem?_toArray, List.getElem?_cons_zero, List.getElem?_cons_succ, List.cons_append, List.nil_append]
    repeat (go_big_quiet_step (fail))
    refine wpQuiet_nil ?_
    refine wpAnyH_done (by kernel_rfl) (NoPanic.normal ?_) 0
    clear nB
    obtain ⟨z0, z1, z2, z3, z4, z5, z6, z7⟩ := B5.out.cells
    cases rp with
    | false =>
      obtain ⟨rfl, rfl⟩ := E1.out.2 rfl
      go_wp2_with fail
      refine (HLR.out w5 Y5.out).mono ?_
      rintro e w6 ⟨rfl, y⟩
      have Y6 : Hid (Below w.heap.size w w6) := ext_trans Y5.out y
      clear y
      go_wp2
      go_ret
      exact ⟨rfl, Y6.out⟩
    | true =>
      obtain rfl := E1.out.1 rfl
      go_wp2_with fail
      refine (HLR.out w5 Y5.out).mono ?_
      rintro e w6 ⟨rfl, y⟩
      have Y6 : Hid (Below w.heap.size w w6) := ext_trans Y5.out y
      have B6 : Hid (PBox w6 w.heap.size p (.slice ka kn kc) (.slice va vn vc) (.slice da dn dc)) := B5.out.below y
      have S6 : Hid (Src w6 (.slice ao1 n1 c1) (encP p A)) := (S5.out (by trivial)).below y
      clear y z0 z1 z2 z3 z4 z5 z6 z7 B5 S5 Y5 HRI HLR E1
      have hn1 : n1 = (encP p A).length := S6.out.at.1
      have hn512 : n1 ≤ 512 := by rw [hn1]; exact encP_length HRP.out
      have HN1 : Hid (n1 = (encP p A).length) := hn1
      clear hn1
      have HLB : Hid (Calls Try.prog 20 #[.agg #[.int .i64 p.kind, .slice ka kn kc, .slice va vn vc, .slice da dn dc, .int .i64 p.root, .int .i64 p.next, .int .i64 p.size, .int .i64 p.idle], .int .u64 (A : Int)] w6.drew (BytesP w6.drew (encP p A))) := lawBytes_any p A _ _ _ w6.drew (HP.out.below (Below.drew Y6.out)) HRP.out hA64
      obtain ⟨z0, z1, z2, z3, z4, z5, z6, z7⟩ := B6.out.cells
      have k0 := cellX (W0 := w6.drew) z0
      have k1 := cellX (W0 := w6.drew) z1
      have k2 := cellX (W0 := w6.drew) z2
      have k3 := cellX (W0 := w6.drew) z3
      have k4 := cellX (W0 := w6.drew) z4
      have k5 := cellX (W0 := w6.drew) z5
      have k6 := cellX (W0 := w6.drew) z6
      have k7 := cellX (W0 := w6.drew) z7
      have u1 := Src.strE (W0 := w6.drew) S6.out
      obtain ⟨ES, hES⟩ : ∃ E : ByteArray, E = ⟨(encP p A).toArray⟩ := ⟨_, rfl⟩
      rw [← hES] at u1
      have HES : Hid (ES = ⟨(encP p A).toArray⟩) := hES
      clear z0 z1 z2 z3 z4 z5 z6 z7 hES
      go_wp2_with fail
      haveI nA := cls_ext w6.drew
      refine wp_region_ext (by kernel_rfl) ?_
      refine wpAnyH_seg (by kernel_rfl) (fun _ _ _ h => h) [0, 1, 2, 3, 4, 5, 6] 9 _ _ _ (Ext.refl _) (by kernel_rfl) ?_
      simp only [opsAt, List.getElem?_toArray, List.getElem?_cons_zero, List.getElem?_cons_succ, List.cons_append, List.nil_append]
      repeat (go_big_quiet_step (fail))
      refine wpQuiet_nil ?_
      clear k0 k1 k2 k3 k4 k5 k6 k7 u1 nA
      refine wpAnyH_callE (i := 7) (fuel := 8) 45 rfl (by kernel_rfl) rfl (Ext.refl _) (by kernel_rfl) (by kernel_rfl) HLB.out ?_
      rintro e w7 ⟨v7, rfl, hs7, y⟩
      have Y7 : Hid (Below w.heap.size w w7) := ext_trans (Below.drew Y6.out) y
      have B7 : Hid (PBox w7 w.heap.size p (.slice ka kn kc) (.slice va vn vc) (.slice da dn dc)) := (B6.out.below (Below.drew (Below.refl _ w6))).below y
      have S7 : Hid (Src w7 (.slice ao1 n1 c1) (encP p A)) := (S6.out.below (Below.drew (Below.refl _ w6))).below y
      refine ⟨_, rfl, y, ?_⟩
      obtain ⟨ax, cx, hv7⟩ := hs7.form
      subst hv7
      have u2 := Src.strE (W0 := w7) hs7
      rw [← HES.out] at u2
      clear y HLB hs7 S6 B6 Y6
      simp only [Act.put, List.setIfInBounds_toArray, List.set_cons_succ, List.set_cons_zero]
      have g1 : ¬ 512 < n1 := by omega
      have g2 : decide (512 < n1) = false := decide_eq_false g1
      have g3 : ¬ (512 : Int) < (n1 : Int) := by omega
      haveI nB := cls_ext w7
      generalize (encP p A).length = LX at *
      refine wpAnyH_seg (by kernel_rfl) (fun _ _ _ h => h) [8, 9, 10, 11, 12, 13, 14, 15] 0 _ _ _ (Ext.refl _) (by kernel_rfl) ?_
      simp only [opsAt, List.getElem?_toArray, List.getElem?_cons_zero, List.getElem?_cons_succ, List.cons_append, List.nil_append]
      repeat (go_big_quiet_step (fail))
      refine wpQuiet_nil ?_
      refine wpAnyH_done (by kernel_rfl) (NoPanic.normal ?_) 0
      clear nB u2 g1 g2 g3 HES
      have hown0 : Own (w7.alloc (.cells #[] 5)) w7.heap.size (.slice (some ⟨w7.heap.size, 0, none⟩) 0 0) [] := World.ownsRow_made w7 #[] 0 (Nat.le_refl _) (Nat.zero_le _) rfl
      have hx0 : Below w7.heap.size w7 (w7.alloc (.cells #[] 5)) := (Below.refl _ _).alloc (Nat.le_refl _) _
      have HO0 : Hid (Own (w7.alloc (.cells #[] 5)) w7.heap.size (.slice (some ⟨w7.heap.size, 0, none⟩) 0 0) []) := hown0
      have HX0 : Hid (Below w7.heap.size w7 (w7.alloc (.cells #[] 5))) := hx0
      have HSR : Hid (Src (w7.alloc (.cells #[] 5)) (.slice ao1 n1 c1) (encP p A)) := S7.out.below hx0
      have HLL : Hid ((encP p A).length ≤ 512) := encP_length HRP.out
      clear hown0 hx0 S7
      go_wp2_with (first | (at_builtin; refine wpList_join _ rfl _ _ rfl w7.heap.size _ [] (encP p A) HO0.out rfl _ HSR.out rfl ?_ ?_ ?_))
      · have := HLL.out; simp; omega
      · exact HX0.out.size
      intro v8 w8 o8 gr8 nn8
      have O8 : Hid (Own w8 w7.heap.size v8 (encP p A)) := o8
      have N8 : Hid (v8 ≠ .slice none 0 0) := fun e => by have := nn8 e; simp at this
      have Y8 : Hid (Below w7.heap.size w7 w8) := HX0.out.grown gr8 HX0.out.size (fun k hk => (HO0.out.lt k hk).1)
      clear o8 gr8 nn8 HO0 HX0 HSR
      go_wp2_with (first | (at_builtin; refine wpList_zeros _ rfl _ _ rfl w7.heap.size _ (encP p A) N O8.out N8.out rfl rfl ?_ Y8.out.size ?_))
      · have := HLL.out; omega
      intro v9 w9 o9 gr9
      have Y9 : Hid (Below w7.heap.size w7 w9) := Y8.out.grown gr9 Y8.out.size (fun k hk => (O8.out.lt k hk).1)
      have HDC : Hid (Calls Try.prog 21 #[v9] w9 (DecPost (encP p A ++ List.replicate N 0) w9)) := decode_any v9 _ w9 o9.src (by have := HLL.out; simp; omega)
      clear o9 gr9 O8 N8 Y8
      go_wp2_with fail
      refine HDC.out.mono ?_
      rintro e w10 ⟨hd, y⟩
      have Y10 : Hid (Below w7.heap.size w7 w10) := ext_trans Y9.out y
      clear y HDC Y9
      by_cases hgt : 9223372036854775807 < A
      · rw [dec_great HRP.out hA64 hgt] at hd
        subst hd
        have YE : Hid (∀ o, Below w.heap.size w (w10.alloc o)) := fun o => ext_trans (ext_trans Y7.out Y10.out) ((Below.refl _ _).alloc (Nat.le_refl _) _)
        unfold pgv Pg.zero
        have hgi : (9223372036854775807 : Int) < (A : Int) := by omega
        go_wp2
        go_ret
        exact ⟨rfl, YE.out _⟩
      · obtain ⟨d1, d2, d3⟩ := dec_of HRP.out (show A ≤ 9223372036854775807 by omega) N
        rw [d1, d2, d3] at hd
        obtain ⟨kv2, vv2, dv2, he, hpg⟩ := hd
        subst he
        clear d1 d2 d3
        have HP2 : Hid (PgAt w10 p kv2 vv2 dv2) := hpg
        obtain ⟨ka2, kc2, va2, vc2, da2, dc2, rfl, rfl, rfl, _, _, _⟩ := hpg.forms
        clear hpg
        generalize p.keys.length = kn2 at *
        generalize p.vals.length = vn2 at *
        generalize p.kids.length = dn2 at *
        obtain ⟨W11, hW⟩ : ∃ W, W = w10.alloc (.cells #[.int .i64 p.kind, .slice ka2 kn2 kc2, .slice va2 vn2 vc2, .slice da2 dn2 dc2, .int .i64 p.root, .int .i64 p.next, .int .i64 p.size, .int .i64 p.idle] 25) := ⟨_, rfl⟩
        have HBq : Hid (PBox W11 w10.heap.size p (.slice ka2 kn2 kc2) (.slice va2 vn2 vc2) (.slice da2 dn2 dc2)) := by rw [hW]; exact pbox_new _ _ _ _ _
        have HX : Hid (Below w10.heap.size w10 W11) := by rw [hW]; exact (Below.refl _ _).alloc (Nat.le_refl _) _
        unfold pgv
        go_upto_region 13 with fail
        rw [← hW]
        clear hW
        have Y11 : Hid (Below w.heap.size w W11) := ext_trans (ext_trans Y7.out Y10.out) HX.out
        have B11 : Hid (PBox W11 w.heap.size p (.slice ka kn kc) (.slice va vn vc) (.slice da dn dc)) := B7.out.below (ext_trans Y10.out HX.out)
        have Q11 : Hid (PgAt W11 p (.slice ka2 kn2 kc2) (.slice va2 vn2 vc2) (.slice da2 dn2 dc2)) := HP2.out.below HX.out
        have P11 : Hid (PgAt W11 p (.slice ka kn kc) (.slice va vn vc) (.slice da dn dc)) := HP.out.below Y11.out
        clear HX HP2 HP Y10 Y7 B7
        have hpp : samePg p p = true := (samePg_iff p p).2 rfl
        have HC1 : Hid (Calls Try.prog 22 #[.agg #[.int .i64 p.kind, .slice ka2 kn2 kc2, .slice va2 vn2 vc2, .slice da2 dn2 dc2, .int .i64 p.root, .int .i64 p.next, .int .i64 p.size, .int .i64 p.idle], .agg #[.int .i64 p.kind, .slice ka kn kc, .slice va vn vc, .slice da dn dc, .int .i64 p.root, .int .i64 p.next, .int .i64 p.size, .int .i64 p.idle]] W11 fun e w' => e = .returned (.bool true) ∧ Below W11.heap.size W11 w') := by
          have := psame_any p p _ _ _ _ _ _ W11 Q11.out P11.out
          rw [hpp] at this
          exact this
        have HC2 : Hid (∀ W, Below W11.heap.size W11 W → Calls Try.prog 22 #[.agg #[.int .i64 p.kind, .slice ka kn kc, .slice va vn vc, .slice da dn dc, .int .i64 p.root, .int .i64 p.next, .int .i64 p.size, .int .i64 p.idle], .agg #[.int .i64 p.kind, .slice ka2 kn2 kc2, .slice va2 vn2 vc2, .slice da2 dn2 dc2, .int .i64 p.root, .int .i64 p.next, .int .i64 p.size, .int .i64 p.idle]] W fun e w' => e = .returned (.bool true) ∧ Below W.heap.size W w') := fun W hW => by
          have := psame_any p p _ _ _ _ _ _ W (P11.out.below hW) (Q11.out.below hW)
          rw [hpp] at this
          exact this
        clear hpp P11 Q11
        have hgi : ¬ (9223372036854775807 : Int) < (A : Int) := by omega
        obtain ⟨z0, z1, z2, z3, z4, z5, z6, z7⟩ := HBq.out.cells
        obtain ⟨x0, x1, x2, x3, x4, x5, x6, x7⟩ := B11.out.cells
        go_wp2_with fail
        refine HC1.out.mono ?_
        rintro e w12 ⟨rfl, y⟩
        have C1 : Hid (PBox w12 w10.heap.size p (.slice ka2 kn2 kc2) (.slice va2 vn2 vc2) (.slice da2 dn2 dc2)) := HBq.out.below y
        have C2 : Hid (PBox w12 w.heap.size p (.slice ka kn kc) (.slice va vn vc) (.slice da dn dc)) := B11.out.below y
        have Y12 : Hid (Below w.heap.size w w12) := ext_trans Y11.out y
        have HC3 : Hid (Calls _ _ _ _ _) := HC2.out w12 y
        clear y z0 z1 z2 z3 z4 z5 z6 z7 x0 x1 x2 x3 x4 x5 x6 x7 HC1 HC2 HBq B11
        obtain ⟨z0, z1, z2, z3, z4, z5, z6, z7⟩ := C1.out.cells
        obtain ⟨x0, x1, x2, x3, x4, x5, x6, x7⟩ := C2.out.cells
        go_wp2_with fail
        refine HC3.out.mono ?_
        rintro e w13 ⟨rfl, y⟩
        have Y13 : Hid (Below w.heap.size w w13) := ext_trans Y12.out y
        clear y z0 z1 z2 z3 z4 z5 z6 z7 x0 x1 x2 x3 x4 x5 x6 x7
        go_wp2
        go_ret
        exact ⟨rfl, Y13.out⟩
end Go.Proofs.Ytcmhhigkhenllaa

/- PageApart: the walk of the law's Go text. -/
import Derived.Test.YtcmhhigkhenllaaPg8
import Derived.Test.YtcmhhigkhenllaaPgOpen
import Derived.Test.YtcmhhigkhenllaaDec5
import Derived.Test.YtcmhhigkhenllaaRd1
import Derived.Test.YtcmhhigkhenllaaSrcSeg
import Derived.Deep.Cut
namespace Go.Proofs.Ytcmhhigkhenllaa
open Go.ChangeShapes Go.WideShapes Go.ChangeAt Go.RowKit

theorem and_leA (a : Int) (m : Nat) (hm : m < 9223372036854775808) : ∃ i : Nat, i ≤ m ∧ bits .and .i64 a (m : Int) = (i : Int) := by
  have hle : (BitVec.ofInt 64 a &&& BitVec.ofInt 64 (m : Int)).toNat ≤ m := by
    rw [BitVec.toNat_and]
    refine Nat.le_trans Nat.and_le_right ?_
    rw [BitVec.ofInt_natCast, BitVec.toNat_ofNat]
    exact Nat.mod_le _ _
  refine ⟨(BitVec.ofInt 64 a &&& BitVec.ofInt 64 (m : Int)).toNat, hle, ?_⟩
  show IntKind.i64.wrap ((BitVec.ofInt 64 a &&& BitVec.ofInt 64 (m : Int)).toNat : Int) = _
  rw [IntKind.wrap_i64]
  omega

theorem enc_gen (p : Pg) (a : Nat) (kv vv dv : Value) (w : World) (hp : PgAt w p kv vv dv) (hok : p.Ok) (ha : a < 18446744073709551616) (r : Bool) (hr : rightPg p = r) :
    Calls Try.prog 17 #[pgv p kv vv dv, .int .u64 (a : Int)] w fun e w' => ∃ ao n c ec, e = .returned (.tuple #[.slice ao n c, .int .i64 ec]) ∧ ((r = true → ec = 0) ∧ (r = false → ec = 1)) ∧ (r = true → Src w' (.slice ao n c) (encP p a)) ∧ Below w.heap.size w w' :=
  (encode_any p a kv vv dv w hp hok ha).mono fun e w' he => by
    obtain ⟨h1, h2⟩ := he
    rw [hr] at h1
    cases r with
    | true =>
      obtain ⟨v, rfl, hs⟩ := h1
      obtain ⟨ao, c, rfl⟩ := hs.form
      exact ⟨ao, _, c, 0, rfl, ⟨fun _ => rfl, fun h => (by cases h)⟩, fun _ => hs, h2⟩
    | false => exact ⟨none, 0, 0, 1, h1, ⟨fun h => (by cases h), fun _ => rfl⟩, fun h => (by cases h), h2⟩

theorem zeros_bad (m : Nat) : decOk (List.replicate m 0) = false := by
  have hk : (kindR (List.replicate m 0)).1 = 0 := by
    unfold kindR rnum
    cases m with
    | zero => rfl
    | succ m =>
      have hf : firstL (List.replicate (m + 1) (0 : UInt8)) = (0, 1, 0) := by
        rw [List.replicate_succ]
        unfold firstL fstF
        simp
      rw [if_neg (by omega), hf]
      simp
  unfold decOk decR
  rw [hk]
  have : rightPg (bodyR 0 (lsnR (List.replicate m 0)).2.1 (lsnR (List.replicate m 0)).2.2).p = false := rfl
  rw [this]
  simp

theorem made_src (w : World) (B m : Nat) (v : Value) (h : w.ownsRow B 5 1 v m (madeCells #[Value.int .u8 0] m).toList) : Src w v (List.replicate m 0) := by
  have e : (madeCells #[Value.int .u8 0] m).toList = bv (List.replicate m 0) := by
    rw [toList_madeCells_one]
    simp [bv]
  rw [e] at h
  exact Own.src (B := B) (by unfold Own; rw [List.length_replicate]; exact h)

set_option maxRecDepth 100000 in
set_option maxHeartbeats 8000000 in
theorem walk_PageApart (p : Pg) (kv vv dv : Value) (q : Pg) (kv' vv' dv' : Value) (a b n : Int) (w : World) (hp : PgAt w p kv vv dv) (hpo : p.Ok) (hq : PgAt w q kv' vv' dv') (hqo : q.Ok) (ha : (Lit.int .u64 a).wf = true) (hb : (Lit.int .u64 b).wf = true) (_hn : (Lit.int .i64 n).wf = true) :
    Calls Try.prog 7 #[pgv p kv vv dv, pgv q kv' vv' dv', .int .u64 a, .int .u64 b, .int .i64 n] w fun e w' => e = .returned (.bool true) ∧ Below w.heap.size w w' := by
  have ha' := bounds_u64 ha
  have hb' := bounds_u64 hb
  obtain ⟨A, hA, hA64⟩ : ∃ A : Nat, a = (A : Int) ∧ A < 18446744073709551616 := ⟨a.toNat, by omega, by omega⟩
  obtain ⟨C, hC, hC64⟩ : ∃ C : Nat, b = (C : Int) ∧ C < 18446744073709551616 := ⟨b.toNat, by omega, by omega⟩
  subst hA hC
  obtain ⟨N, hN511, hN⟩ := and_leA n 511 (by omega)
  have hN' : bits BinOp.and IntKind.i64 n 511 = (N : Int) := hN
  clear hN ha hb ha' hb'
  have HP : Hid (PgAt w p kv vv dv) := hp
  have HQ : Hid (PgAt w q kv' vv' dv') := hq
  have HPO : Hid p.Ok := hpo
  have HQO : Hid q.Ok := hqo
  obtain ⟨ka, kc, va, vc, da, dc, rfl, rfl, rfl, _, _, _⟩ := hp.forms
  obtain ⟨ka', kc', va', vc', da', dc', rfl, rfl, rfl, _, _, _⟩ := hq.forms
  clear hp hq hpo hqo
  generalize p.keys.length = kn at *
  generalize p.vals.length = vn at *
  generalize p.kids.length = dn at *
  generalize q.keys.length = kn' at *
  generalize q.vals.length = vn' at *
  generalize q.kids.length = dn' at *
  have HE0 : Hid (∀ o o', Below w.heap.size w ((w.alloc o).alloc o')) := fun o o' => ((Below.refl _ _).alloc (Nat.le_refl _) _).alloc (by simp) _
  have HB1 : Hid (∀ o', PBox ((w.alloc (.cells (pgc p (.slice ka kn kc) (.slice va vn vc) (.slice da dn dc)) 25)).alloc o') w.heap.size p (.slice ka kn kc) (.slice va vn vc) (.slice da dn dc)) := fun o' => (Blk.new _ _ _).alloc _
  have HB2 : Hid (∀ cc T, PBox ((w.alloc (.cells cc T)).alloc (.cells (pgc q (.slice ka' kn' kc') (.slice va' vn' vc') (.slice da' dn' dc')) 25)) (w.heap.size + 1) q (.slice ka' kn' kc') (.slice va' vn' vc') (.slice da' dn' dc')) := fun cc T => blk_two _ _ _ _ _
  unfold pgc at HB1 HB2
  unfold pgv
  go_enter Try.func7, Try.ntmps7
  go_wp2_with fail
  refine (head6_any _).mono ?_
  rintro e w1 ⟨rfl, y⟩
  have Y1 : Hid (Below w.heap.size w w1) := ext_trans (HE0.out _ _) y
  have B1 : Hid (PBox w1 w.heap.size p (.slice ka kn kc) (.slice va vn vc) (.slice da dn dc)) := (HB1.out _).below y
  have C1 : Hid (PBox w1 (w.heap.size + 1) q (.slice ka' kn' kc') (.slice va' vn' vc') (.slice da' dn' dc')) := (HB2.out _ _).below y
  clear y HB1 HB2 HE0
  obtain ⟨z0, z1, z2, z3, z4, z5, z6, z7⟩ := B1.out.cells
  obtain ⟨x0, x1, x2, x3, x4, x5, x6, x7⟩ := C1.out.cells
  go_wp2_with fail
  refine (small_any p _ _ _ w1 (HP.out.below Y1.out)).mono ?_
  rintro e w2 ⟨rfl, y⟩
  have Y2 : Hid (Below w.heap.size w w2) := ext_trans Y1.out y
  have B2 : Hid (PBox w2 w.heap.size p (.slice ka kn kc) (.slice va vn vc) (.slice da dn dc)) := B1.out.below y
  have C2 : Hid (PBox w2 (w.heap.size + 1) q (.slice ka' kn' kc') (.slice va' vn' vc') (.slice da' dn' dc')) := C1.out.below y
  clear y z0 z1 z2 z3 z4 z5 z6 z7 x0 x1 x2 x3 x4 x5 x6 x7 B1 C1 Y1
  cases hsm : smallPg p with
  | false =>
    go_wp2
    go_ret
    exact ⟨rfl, Y2.out⟩
  | true =>
    clear hsm
    obtain ⟨z0, z1, z2, z3, z4, z5, z6, z7⟩ := B2.out.cells
    obtain ⟨x0, x1, x2, x3, x4, x5, x6, x7⟩ := C2.out.cells
    go_wp2_with fail
    refine (small_any q _ _ _ w2 (HQ.out.below Y2.out)).mono ?_
    rintro e w3 ⟨rfl, y⟩
    have Y3 : Hid (Below w.heap.size w w3) := ext_trans Y2.out y
    have B3 : Hid (PBox w3 w.heap.size p (.slice ka kn kc) (.slice va vn vc) (.slice da dn dc)) := B2.out.below y
    have C3 : Hid (PBox w3 (w.heap.size + 1) q (.slice ka' kn' kc') (.slice va' vn' vc') (.slice da' dn' dc')) := C2.out.below y
    clear y z0 z1 z2 z3 z4 z5 z6 z7 x0 x1 x2 x3 x4 x5 x6 x7 B2 C2 Y2
    cases hsm : smallPg q with
    | false =>
      go_wp2
      go_ret
      exact ⟨rfl, Y3.out⟩
    | true =>
      clear hsm
      obtain ⟨rp, hrp⟩ : ∃ r, rightPg p = r := ⟨_, rfl⟩
      obtain ⟨rq, hrq⟩ : ∃ r, rightPg q = r := ⟨_, rfl⟩
      have HRP : Hid (rightPg p = rp) := hrp
      have HRQ : Hid (rightPg q = rq) := hrq
      clear hrp hrq
      obtain ⟨z0, z1, z2, z3, z4, z5, z6, z7⟩ := B3.out.cells
      obtain ⟨x0, x1, x2, x3, x4, x5, x6, x7⟩ := C3.out.cells
      go_wp2_with fail
      refine (enc_gen p A _ _ _ w3 (HP.out.below Y3.out) HPO.out hA64 rp HRP.out).mono ?_
      rintro e w4 ⟨ao1, n1, c1, ec1, rfl, he1, hs1, y⟩
      have E1 : Hid ((rp = true → ec1 = 0) ∧ (rp = false → ec1 = 1)) := he1
      clear he1
      have S1 : Hid (rp = true → Src w4 (.slice ao1 n1 c1) (encP p A)) := hs1
      have Y4 : Hid (Below w.heap.size w w4) := ext_trans Y3.out y
      have B4 : Hid (PBox w4 w.heap.size p (.slice ka kn kc) (.slice va vn vc) (.slice da dn dc)) := B3.out.below y
      have C4 : Hid (PBox w4 (w.heap.size + 1) q (.slice ka' kn' kc') (.slice va' vn' vc') (.slice da' dn' dc')) := C3.out.below y
      clear hs1 y z0 z1 z2 z3 z4 z5 z6 z7 x0 x1 x2 x3 x4 x5 x6 x7 B3 C3 Y3
      obtain ⟨z0, z1, z2, z3, z4, z5, z6, z7⟩ := B4.out.cells
      obtain ⟨x0, x1, x2, x3, x4, x5, x6, x7⟩ := C4.out.cells
      go_wp2_with fail
      refine (enc_gen q C _ _ _ w4 (HQ.out.below Y4.out) HQO.out hC64 rq HRQ.out).mono ?_
      rintro e w5 ⟨ao2, n2, c2, ec2, rfl, he2, hs2, y⟩
      have E2 : Hid ((rq = true → ec2 = 0) ∧ (rq = false → ec2 = 1)) := he2
      clear he2
      have T1 : Hid (rp = true → Src w5 (.slice ao1 n1 c1) (encP p A)) := fun h => (S1.out h).below y
      have T2 : Hid (rq = true → Src w5 (.slice ao2 n2 c2) (encP q C)) := hs2
      have Y5 : Hid (Below w.heap.size w w5) := ext_trans Y4.out y
      have B5 : Hid (PBox w5 w.heap.size p (.slice ka kn kc) (.slice va vn vc) (.slice da dn dc)) := B4.out.below y
      have C5 : Hid (PBox w5 (w.heap.size + 1) q (.slice ka' kn' kc') (.slice va' vn' vc') (.slice da' dn' dc')) := C4.out.below y
      clear hs2 y z0 z1 z2 z3 z4 z5 z6 z7 x0 x1 x2 x3 x4 x5 x6 x7 B4 C4 Y4 S1
      obtain ⟨i0, hi, hz0, hz1, hz2⟩ := info_parts info8
      go_wp2_with (first | (at_make; refine wpList_make_full _ rfl _ _ 29 rfl w5.heap.size 5 i0 (.int .u8 0) 1 Try.underlying29 hi hz0 hz1 .i64 .i64 _ _ N rfl rfl rfl rfl (by rw [hz2]; omega) (by unfold maxLen; omega) (Nat.le_refl _) ?_))
      intro w6 hrow hgr
      have y6 : Below w5.heap.size w5 w6 := (Below.refl _ _).grown hgr (Nat.le_refl _) (by intro k hk; cases hk)
      have HDC : Hid (Calls Try.prog 21 #[.slice (some ⟨w5.heap.size, 0, none⟩) N N] w6 fun e w' => e = .returned (.tuple #[.agg #[.int .i64 0, .slice none 0 0, .slice none 0 0, .slice none 0 0, .int .i64 0, .int .i64 0, .int .i64 0, .int .i64 0], .int .u64 0, .int .i64 11]) ∧ Below w6.heap.size w6 w') := (decode_any _ (List.replicate N 0) w6 (made_src w6 _ N _ hrow) (by simp; omega)).mono fun e w' h => by
        have h1 := h.1
        rw [zeros_bad] at h1
        exact ⟨h1, h.2⟩
      have Y6 : Hid (Below w5.heap.size w5 w6) := y6
      clear hrow hgr y6 hi hz0 hz1 hz2
      go_wp2_with fail
      refine HDC.out.mono ?_
      rintro e w7 ⟨rfl, y⟩
      have Y7 : Hid (Below w5.heap.size w5 w7) := ext_trans Y6.out y
      clear y Y6 HDC
      go_upto_region 10 with fail
      generalize hw8 : w7.alloc _ = w8 at *
      have X8 : Hid (Below w5.heap.size w5 w8) := by rw [← hw8]; exact ext_trans Y7.out ((Below.refl _ _).alloc (Nat.le_refl _) _)
      have U1 : Hid (rp = true → Src w8 (.slice ao1 n1 c1) (encP p A)) := fun h => (T1.out h).below X8.out
      have U2 : Hid (rq = true → Src w8 (.slice ao2 n2 c2) (encP q C)) := fun h => (T2.out h).below X8.out
      have B8 : Hid (PBox w8 w.heap.size p (.slice ka kn kc) (.slice va vn vc) (.slice da dn dc)) := B5.out.below X8.out
      have C8 : Hid (PBox w8 (w.heap.size + 1) q (.slice ka' kn' kc') (.slice va' vn' vc') (.slice da' dn' dc')) := C5.out.below X8.out
      have Y8 : Hid (Below w.heap.size w w8) := ext_trans Y5.out X8.out
      clear hw8 X8 T1 T2 B5 C5 Y5 Y7
      cases rp with
      | false =>
        obtain rfl := E1.out.2 rfl
        go_wp2
        go_ret
        exact ⟨rfl, Y8.out⟩
      | true =>
        obtain rfl := E1.out.1 rfl
        cases rq with
        | false =>
          obtain rfl := E2.out.2 rfl
          go_wp2
          go_ret
          exact ⟨rfl, Y8.out⟩
        | true =>
          obtain rfl := E2.out.1 rfl
          clear E1 E2
          have HEQ : Hid (((⟨(encP p A).toArray⟩ : ByteArray).toList == (⟨(encP q C).toArray⟩ : ByteArray).toList) = (samePg p q && decide (A = C))) := by
            show _ = _
            rw [beq_str, Bool.eq_iff_iff, Bool.and_eq_true, samePg_iff, decide_eq_true_iff, decide_eq_true_iff]
            constructor
            · intro h
              refine encP_inj HRP.out HRQ.out hA64 hC64 ?_
              have := congrArg (fun x => x.data.toList) h
              simpa using this
            · rintro ⟨rfl, rfl⟩
              rfl
          have u1 := Src.strE (W0 := w8.drew) (U1.out rfl)
          have u2 := Src.strE (W0 := w8.drew) (U2.out rfl)
          obtain ⟨z0, z1, z2, z3, z4, z5, z6, z7⟩ := B8.out.cells
          obtain ⟨x0, x1, x2, x3, x4, x5, x6, x7⟩ := C8.out.cells
          have HSM : Hid (Calls Try.prog 22 #[pgv p (.slice ka kn kc) (.slice va vn vc) (.slice da dn dc), pgv q (.slice ka' kn' kc') (.slice va' vn' vc') (.slice da' dn' dc')] w8.drew fun e w' => e = .returned (.bool (samePg p q)) ∧ Below w8.drew.heap.size w8.drew w') := psame_any p q _ _ _ _ _ _ w8.drew (HP.out.below (Below.drew Y8.out)) (HQ.out.below (Below.drew Y8.out))
          unfold pgv at HSM
          generalize (⟨(encP p A).toArray⟩ : ByteArray) = S1 at *
          generalize (⟨(encP q C).toArray⟩ : ByteArray) = S2 at *
          generalize samePg p q = sm at *
          clear U1 U2 HRP HRQ
          have k0 := cellX (W0 := w8.drew) z0
          have k1 := cellX (W0 := w8.drew) z1
          have k2 := cellX (W0 := w8.drew) z2
          have k3 := cellX (W0 := w8.drew) z3
          have k4 := cellX (W0 := w8.drew) z4
          have k5 := cellX (W0 := w8.drew) z5
          have k6 := cellX (W0 := w8.drew) z6
          have k7 := cellX (W0 := w8.drew) z7
          have j0 := cellX (W0 := w8.drew) x0
          have j1 := cellX (W0 := w8.drew) x1
          have j2 := cellX (W0 := w8.drew) x2
          have j3 := cellX (W0 := w8.drew) x3
          have j4 := cellX (W0 := w8.drew) x4
          have j5 := cellX (W0 := w8.drew) x5
          have j6 := cellX (W0 := w8.drew) x6
          have j7 := cellX (W0 := w8.drew) x7
          clear z0 z1 z2 z3 z4 z5 z6 z7 x0 x1 x2 x3 x4 x5 x6 x7
          go_wp2_with fail
          haveI nA := cls_ext w8.drew
          refine wp_region_ext (by kernel_rfl) ?_
          refine wpAnyH_seg (by kernel_rfl) (fun _ _ _ h => h) [0, 1, 2, 3, 4, 5, 6] 8 _ _ _ (Ext.refl _) (by kernel_rfl) ?_
          simp only [opsAt, List.getElem?_toArray, List.getElem?_cons_zero, List.getElem?_cons_succ, List.cons_append, List.nil_append]
          repeat (go_big_quiet_step (fail))
          refine wpQuiet_nil ?_
          clear u1 u2 k0 k1 k2 k3 k4 k5 k6 k7 j0 j1 j2 j3 j4 j5 j6 j7 nA
          refine wpAnyH_callE (i := 7) (fuel := 7) 63 rfl (by kernel_rfl) rfl (Ext.refl _) (by kernel_rfl) (by kernel_rfl) HSM.out ?_
          rintro e w9 ⟨rfl, y⟩
          have Y9 : Hid (Below w.heap.size w w9) := ext_trans (Below.drew Y8.out) y
          refine ⟨_, rfl, y, ?_⟩
          clear HSM y
          simp only [Act.put, List.setIfInBounds_toArray, List.set_cons_succ, List.set_cons_zero]
          haveI nB := cls_ext w9
          cases sm with
          | false =>
            refine wpAnyH_seg (by kernel_rfl) (fun _ _ _ h => h) [8, 9, 10, 11, 12, 13, 14] 0 _ _ _ (Ext.refl _) (by kernel_rfl) ?_
            simp only [opsAt, List.getElem?_toArray, List.getElem?_cons_zero, List.getElem?_cons_succ, List.cons_append, List.nil_append]
            repeat (go_big_quiet_step (fail))
            refine wpQuiet_nil ?_
            refine wpAnyH_done (by kernel_rfl) (NoPanic.normal ?_) 0
            clear nB
            go_wp2
            go_ret
            refine ⟨ret_bool ?_, Y9.out⟩
            have := HEQ.out
            simp_all
          | true =>
            refine wpAnyH_seg (by kernel_rfl) (fun _ _ _ h => h) [8, 9, 10, 11, 12, 13, 14] 0 _ _ _ (Ext.refl _) (by kernel_rfl) ?_
            simp only [opsAt, List.getElem?_toArray, List.getElem?_cons_zero, List.getElem?_cons_succ, List.cons_append, List.nil_append]
            repeat (go_big_quiet_step (fail))
            refine wpQuiet_nil ?_
            refine wpAnyH_done (by kernel_rfl) (NoPanic.normal ?_) 0
            clear nB
            go_wp2
            go_ret
            refine ⟨ret_bool ?_, Y9.out⟩
            have := HEQ.out
            rw [this]
            by_cases hAC : A = C
            · simp [hAC]
            · have : ¬ (A : Int) = (C : Int) := by omega
              simp [hAC, this]
end Go.Proofs.Ytcmhhigkhenllaa

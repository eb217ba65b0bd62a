/- PageReads: the walk of the law's Go text. -/
import Derived.Test.YtcmhhigkhenllaaDec5
import Derived.Test.YtcmhhigkhenllaaRd2
import Derived.Test.YtcmhhigkhenllaaLawR
import Derived.Test.YtcmhhigkhenllaaLawB
import Derived.Test.YtcmhhigkhenllaaSrcSeg
namespace Go.Proofs.Ytcmhhigkhenllaa
open Go.ChangeShapes Go.WideShapes Go.ChangeAt Go.RowKit

theorem noughts_at {l : List UInt8} (h : noughtsB l = true) (j : Nat) (hj : j < l.length) : l[j] = 0 := by
  unfold noughtsB at h
  have := List.all_eq_true.1 h l[j] (List.getElem_mem hj)
  simpa using this

set_option maxRecDepth 100000 in
set_option maxHeartbeats 16000000 in
theorem walk_PageReads (ao : Option Addr) (len cap : Nat) (zs : List Int) (w : World) (hrow : IsRow .u8 w ao len cap zs) :
    Calls Try.prog 4 #[.slice ao len cap] w fun e w' => e = .returned (.bool true) ∧ Below w.heap.size w w' := by
  obtain ⟨l, hs, hlen⟩ := isRow_src hrow
  have HS : Hid (Src w (.slice ao len cap) l) := hs
  have HLN : Hid (l.length = len) := hlen
  have hcap : len ≤ cap ∧ cap ≤ 9223372036854775807 := by
    have := hs.at
    unfold maxLen at this
    omega
  obtain ⟨hc1, hc2⟩ := hcap
  clear hrow hs hlen
  by_cases h600 : len ≤ 600
  · go_enter Try.func4, Try.ntmps4
    go_wp2_with fail
    refine (head6_any _).mono ?_
    rintro e w1 ⟨rfl, y⟩
    have Y1 : Hid (Below w.heap.size w w1) := y
    have HDC : Hid (Calls Try.prog 21 #[.slice ao len cap] w1 (DecPost l w1)) := decode_any _ l w1 (HS.out.below y) (by have := HLN.out; omega)
    clear y
    go_wp2_with fail
    refine HDC.out.mono ?_
    rintro e w2 ⟨hd, y⟩
    have Y2 : Hid (Below w.heap.size w w2) := ext_trans Y1.out y
    clear y HDC Y1
    cases hok : decOk l with
    | false =>
      rw [hok] at hd
      subst hd
      have HB : Hid (PBox (w2.alloc (.cells #[.int .i64 0, .slice none 0 0, .slice none 0 0, .slice none 0 0, .int .i64 0, .int .i64 0, .int .i64 0, .int .i64 0] 25)) w2.heap.size .zero (.slice none 0 0) (.slice none 0 0) (.slice none 0 0)) := Blk.new _ _ _
      have HC : Hid (∀ W, Calls Try.prog 22 #[.agg #[.int .i64 0, .slice none 0 0, .slice none 0 0, .slice none 0 0, .int .i64 0, .int .i64 0, .int .i64 0, .int .i64 0], .agg #[.int .i64 0, .slice none 0 0, .slice none 0 0, .slice none 0 0, .int .i64 0, .int .i64 0, .int .i64 0, .int .i64 0]] W fun e w' => e = .returned (.bool true) ∧ Below W.heap.size W w') := fun W => psame_any .zero .zero _ _ _ _ _ _ W ⟨Rd.nil _, Rd.nil _, Rd.nil _⟩ ⟨Rd.nil _, Rd.nil _, Rd.nil _⟩
      have YB : Hid (∀ o, Below w.heap.size w (w2.alloc o)) := fun o => ext_trans Y2.out ((Below.refl _ _).alloc (Nat.le_refl _) _)
      unfold pgv Pg.zero
      go_wp2_with fail
      refine (HC.out _).mono ?_
      rintro e w3 ⟨rfl, y⟩
      have Y3 : Hid (Below w.heap.size w w3) := ext_trans (YB.out _) y
      clear y
      go_wp2
      go_ret
      exact ⟨rfl, Y3.out⟩
    | true =>
      rw [hok] at hd
      obtain ⟨kv, vv, dv, he, hpg⟩ := hd
      subst he
      obtain ⟨i1, i2, i3⟩ := dec_inv l hok
      have HI : Hid (l = encP (decR l).p (lsnR l).1 ++ (decR l).l) := i1
      have HNG : Hid (noughtsB (decR l).l = true) := i2
      have HRT : Hid (rightPg (decR l).p = true) := i3
      have HOK : Hid (decR l).p.Ok := body_ok _ (rnum_le _ _ _) _ _
      have hls : (lsnR l).1 < 18446744073709551616 := by have : (lsnR l).1 ≤ 9223372036854775807 := rnum_le _ _ _; omega
      clear i1 i2 i3 hok
      obtain ⟨ka, kc, va, vc, da, dc, rfl, rfl, rfl, _, _, _⟩ := hpg.forms
      have HP : Hid (PgAt w2 (decR l).p _ _ _) := hpg
      clear hpg
      generalize (lsnR l).1 = LSN at *
      generalize hR : (decR l).l = R at *
      generalize (decR l).p = P at *
      clear hR
      generalize P.keys.length = kn at *
      generalize P.vals.length = vn at *
      generalize P.kids.length = dn at *
      -- the bytes are there
      have hne : l ≠ [] := fun e => by
        have := HI.out
        rw [e, encP] at this
        have h2 := congrArg List.length this
        simp at h2
        exact enc_ne P.kind.toNat (List.eq_nil_of_length_eq_zero (by omega))
      obtain ⟨a0, ha0⟩ : ∃ a0, ao = some a0 := by
        cases ao with
        | none => exact absurd (HS.out.at.2.2.2.1 rfl).1 hne
        | some a => exact ⟨a, rfl⟩
      subst ha0
      clear hne
      obtain ⟨W3, hW3⟩ : ∃ W, W = w2.alloc (.cells #[.int .i64 P.kind, .slice ka kn kc, .slice va vn vc, .slice da dn dc, .int .i64 P.root, .int .i64 P.next, .int .i64 P.size, .int .i64 P.idle] 25) := ⟨_, rfl⟩
      have HB : Hid (PBox W3 w2.heap.size P (.slice ka kn kc) (.slice va vn vc) (.slice da dn dc)) := by rw [hW3]; exact pbox_new _ _ _ _ _
      have HE : Hid (Below w2.heap.size w2 W3) := by rw [hW3]; exact (Below.refl _ _).alloc (Nat.le_refl _) _
      unfold pgv
      go_upto_region 8 with fail
      rw [← hW3]
      clear hW3
      have Y3 : Hid (Below w.heap.size w W3) := ext_trans Y2.out HE.out
      have P3 : Hid (PgAt W3 P (.slice ka kn kc) (.slice va vn vc) (.slice da dn dc)) := HP.out.below HE.out
      clear HE HP Y2
      obtain ⟨z0, z1, z2, z3, z4, z5, z6, z7⟩ := HB.out.cells
      go_wp2_with fail
      refine (lawBytes_any P LSN _ _ _ W3 P3.out HRT.out hls).mono ?_
      rintro e w4 ⟨v4, rfl, hs4, y⟩
      have Y4 : Hid (Below w.heap.size w w4) := ext_trans Y3.out y
      have B4 : Hid (PBox w4 w2.heap.size P (.slice ka kn kc) (.slice va vn vc) (.slice da dn dc)) := HB.out.below y
      have P4 : Hid (PgAt w4 P (.slice ka kn kc) (.slice va vn vc) (.slice da dn dc)) := P3.out.below y
      have S4 : Hid (Src w4 v4 (encP P LSN)) := hs4
      obtain ⟨ax, cx, hv4⟩ := hs4.form
      clear hs4 y z0 z1 z2 z3 z4 z5 z6 z7 HB P3 Y3
      obtain ⟨E, hE⟩ : ∃ E, E = encP P LSN := ⟨_, rfl⟩
      rw [← hE] at HI S4 hv4
      clear hE
      subst hv4
      obtain ⟨M, hM⟩ : ∃ M, E.length = M := ⟨_, rfl⟩
      have HM : Hid (E.length = M) := hM
      rw [hM] at S4 ⊢
      have hML : M ≤ len := by
        have h1 := HI.out
        have := congrArg List.length h1
        rw [List.length_append, HLN.out] at this
        omega
      clear hM
      have HTK : Hid (l.take M = E ∧ l.drop M = R) := by
        have h1 := HI.out
        have h2 := HM.out
        rw [h1, ← h2]
        exact ⟨by simp, by simp⟩
      have HC : Hid (Calls Try.prog 19 #[.agg #[.int .i64 P.kind, .slice ka kn kc, .slice va vn vc, .slice da dn dc, .int .i64 P.root, .int .i64 P.next, .int .i64 P.size, .int .i64 P.idle]] w4.drew fun e w' => e = .returned (.bool true) ∧ Below w4.drew.heap.size w4.drew w') := by
        have := lawRight_any P (.slice ka kn kc) (.slice va vn vc) (.slice da dn dc) w4.drew (P4.out.below (Below.drew (Below.refl _ w4))) HOK.out
        rw [HRT.out] at this
        exact this
      obtain ⟨z0, z1, z2, z3, z4, z5, z6, z7⟩ := B4.out.cells
      have k0 := cellX (W0 := w4.drew) z0
      have k1 := cellX (W0 := w4.drew) z1
      have k2 := cellX (W0 := w4.drew) z2
      have k3 := cellX (W0 := w4.drew) z3
      have k4 := cellX (W0 := w4.drew) z4
      have k5 := cellX (W0 := w4.drew) z5
      have k6 := cellX (W0 := w4.drew) z6
      have k7 := cellX (W0 := w4.drew) z7
      clear z0 z1 z2 z3 z4 z5 z6 z7
      go_wp2_with fail
      haveI nA := cls_ext w4.drew
      refine wp_region_ext (by kernel_rfl) ?_
      refine wpAnyH_seg (by kernel_rfl) (fun _ _ _ h => h) [0] 19 _ _ _ (Ext.refl _) (by kernel_rfl) ?_
      simp only [opsAt, List.getElem?_toArray, List.getElem?_cons_zero, List.cons_append, List.nil_append]
      repeat (go_big_quiet_step (fail))
      refine wpQuiet_nil ?_
      clear k0 k1 k2 k3 k4 k5 k6 k7 nA
      refine wpAnyH_callE (i := 1) (fuel := 18) 37 rfl (by kernel_rfl) rfl (Ext.refl _) (by kernel_rfl) (by kernel_rfl) HC.out ?_
      rintro e w6 ⟨rfl, y⟩
      have Y6 : Hid (Below w.heap.size w w6) := ext_trans (Below.drew Y4.out) y
      have S6 : Hid (Src w6 (.slice ax M cx) E) := (S4.out.below (Below.drew (Below.refl _ w4))).below y
      refine ⟨_, rfl, y, ?_⟩
      clear HC y
      simp only [Act.put, List.setIfInBounds_toArray, List.set_cons_succ, List.set_cons_zero]
      have hat := HS.out.at
      have u1 := Src.strE (W0 := w6) (src_take M (HS.out.below Y6.out).at.2.2.2 hat.2.1 hat.2.2.1 (by rw [← hat.1]; exact hML))
      rw [HTK.out.1] at u1
      have u2 := Src.strE (W0 := w6) S6.out
      have hlm : ¬ len < M := by omega
      have hlmb : decide (len < M) = false := decide_eq_false hlm
      have hlmi : ¬ (len : Int) < (M : Int) := by omega
      clear hat
      haveI nB := cls_ext w6
      refine wpAnyH_seg (by kernel_rfl) (fun _ _ _ h => h) [2, 3, 4, 5, 6, 7, 8, 9, 10, 11, 12, 13, 14, 15, 16, 17, 18, 19] 0 _ _ _ (Ext.refl _) (by kernel_rfl) ?_
      simp only [opsAt, List.getElem?_toArray, List.getElem?_cons_zero, List.getElem?_cons_succ, List.cons_append, List.nil_append]
      repeat (go_big_quiet_step (fail))
      refine wpQuiet_nil ?_
      refine wpAnyH_done (by kernel_rfl) (NoPanic.normal ?_) 0
      clear nB u1 u2
      have HCL : Hid (∀ a' c', ((cap = M ∧ a' = some a0 ∧ c' = 0) ∨ (¬ cap = M ∧ a' = Option.map (fun x => x.add M) (some a0) ∧ c' = cap - M)) → ∀ j, j < len - M → ∀ ad, a' = some ad → w6.cell? (ad.add j) = some (.int .u8 0)) := fun a' c' h j hj ad had => by
        have hx : Src w6 (.slice (some a0) l.length cap) l := by rw [HLN.out]; exact HS.out.below Y6.out
        have hdr := (src_drop hx (show M ≤ l.length by rw [HLN.out]; exact hML) h).at.2.2.2
        rw [HTK.out.2] at hdr
        have hRl : R.length = len - M := by rw [← HTK.out.2, List.length_drop, HLN.out]
        have hj2 : j < R.length := by omega
        have := hdr.2 ad had j (.int .u8 (R[j].toNat : Int)) (by simp [bv, hj2])
        rw [noughts_at HNG.out j hj2] at this
        exact this
      clear HI HTK HNG HRT HOK B4 P4 S4 S6 HM HS
      go_wp2
      · have h0 : len - M = 0 := by omega
        have H0 : Hid (len - M = 0) := h0
        clear h0
        go_loop [8, 61] (fun _ i => ∃ j : Nat, i = .int .i64 j ∧ j ≤ len - M) (fun _ i => (len - M) - (intOf i).toNat)
        case atStart => exact ⟨0, rfl, Nat.zero_le _⟩
        case round =>
          obtain ⟨j, rfl, hj⟩ := hrel
          have hlt : ¬ j < len - M := by have := H0.out; omega
          go_wp2
          go_ret
          exact ⟨rfl, Y6.out⟩
      · have HC2 : Hid (∀ j, j < len - M → w6.cell? ((a0.add M).add j) = some (.int .u8 0)) := fun j hj => HCL.out _ _ (.inr ⟨by assumption, rfl, rfl⟩) j hj (a0.add M) rfl
        clear HCL
        go_loop [8, 61] (fun _ i => ∃ j : Nat, i = .int .i64 j ∧ j ≤ len - M) (fun _ i => (len - M) - (intOf i).toNat)
        case atStart => exact ⟨0, rfl, Nat.zero_le _⟩
        case round =>
          obtain ⟨j, rfl, hj⟩ := hrel
          by_cases hlt : j < len - M
          · have y1 := HC2.out j hlt
            generalize a0.add M = a1 at *
            go_wp2
            go_round
            case rel => exact ⟨j + 1, by go_num, by omega⟩
            case measure => simp [intOf]; omega
          · go_wp2
            go_ret
            exact ⟨rfl, Y6.out⟩
  · go_enter Try.func4, Try.ntmps4
    go_wp2_with fail
    refine (head6_any _).mono ?_
    rintro e w1 ⟨rfl, y⟩
    have Y1 : Hid (Below w.heap.size w w1) := y
    clear y
    go_wp2
    go_ret
    exact ⟨rfl, Y1.out⟩
end Go.Proofs.Ytcmhhigkhenllaa

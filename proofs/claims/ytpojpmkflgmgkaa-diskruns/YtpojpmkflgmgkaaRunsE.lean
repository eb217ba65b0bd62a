/- DiskRuns: rounds of the law's loop: On. Own lemmas, no statement. -/
import Derived.Test.YtpojpmkflgmgkaaRuns4
namespace Go.Proofs.Ytpojpmkflgmgkaa
open Go.ChangeShapes Go.WideShapes Go.ChangeAt Go.RowKit

theorem stays_step (keep : List Bool) (tear : Int) (safe : List Sec) (ws : List (Nat × List UInt8)) (k : Nat) (p : Nat × List UInt8) (hp : ws[k]? = some p) : staysTo keep tear safe ws (k + 1) = if keep.getD k false = true then (staysTo keep tear safe ws k).set p.1 (p.2, false) else if (k : Int) = tear then (staysTo keep tear safe ws k).set p.1 (zeros, true) else staysTo keep tear safe ws k := by
  conv => lhs; unfold staysTo
  rw [hp]

set_option maxRecDepth 100000 in
set_option maxHeartbeats 8000000 in
theorem run_on (w0 : World) (n : Nat) (_hn : n ≤ 15) (x : Addr) (no co g k : Nat) (hk : k < no) (hk2 : k < 50) (T : Nat → Value) (b6 c6 b7 c7 : Nat) (a8 : Option Addr) (n8 c8 : Nat) (lnow lsafe : List LSec) (lw : List OpV) (lf : Nat) (ld : Bool) (ls : Nat) (f : Foot) (st : DSt) (wx : World) (Q : Exit → Act → World → Prop)
    (at_ : Int) (bo : Option Addr) (bn bc : Nat) (bl : List UInt8) (ko : Option Addr) (kn kc : Nat) (kl : List Bool) (tr : Int) (hop0 : OpAt w0 x k ⟨4, at_, bo, bn, bc, bl, ko, kn, kc, kl, tr⟩)
    (hM : Mem w0 wx g n b6 c6 b7 c7 a8 n8 c8 ⟨lnow, lsafe, lw, lf, ld, ls⟩ f st) (hS : Sim n ⟨lnow, lsafe, lw, lf, ld, ls⟩ st) (_hwk : lw.length ≤ k) (_hsk : ls ≤ k) (hbn : bn ≤ 600) (hkn : kn ≤ 60) :
    Code.wp Try.prog (bodyOf Try.f3) (Exit.then (fun a' w' => RI w0 n (some x) no co g a' w' ∧ Rmu a' w' < 50 - k) Q) ⟨fr T (.int .i64 (n : Int)) (.slice (some x) no co) (.bool false) (dptr g) (.slice (some ⟨b6, 0, none⟩) n c6) (.slice (some ⟨b7, 0, none⟩) n c7) (.slice a8 n8 c8) (.int .i64 (lf : Int)) (.bool ld) (.int .i64 (ls : Int)) (.int .i64 (k : Int)), []⟩ wx := by
  have hd1 : decide ((k : Int) < (no : Int)) = true := decide_eq_true (by omega)
  have hd2 : decide ((k : Int) < 50) = true := decide_eq_true (by omega)
  have hop := hop0.below hM.dk.bel
  have e0 : wx.cell? (x.add (k * 5)) = some (.int .i64 4) := hop.c0
  have e1 : wx.cell? ⟨(x.add (k * 5)).block, (x.add (k * 5)).off + 1, none⟩ = some (.int .i64 at_) := cell_onR (by omega) hop.c1
  have e2 : wx.cell? ⟨(x.add (k * 5)).block, (x.add (k * 5)).off + 2, none⟩ = some (.slice bo bn bc) := cell_onR (by omega) hop.c2
  have e3 : wx.cell? ⟨(x.add (k * 5)).block, (x.add (k * 5)).off + 3, none⟩ = some (.slice ko kn kc) := cell_onR (by omega) hop.c3
  have e4 : wx.cell? ⟨(x.add (k * 5)).block, (x.add (k * 5)).off + 4, none⟩ = some (.int .i64 tr) := cell_onR (by omega) hop.c4
  have HOP : Hid (OpAt w0 x k ⟨4, at_, bo, bn, bc, bl, ko, kn, kc, kl, tr⟩) := hop0
  have hat64 : -9223372036854775808 ≤ at_ ∧ at_ ≤ 9223372036854775807 := by have := bounds_i64 hop0.w1; simp only at this; omega
  have hbeL : Below wx.heap.size wx (wx.alloc (.cells #[.int .i64 4, .int .i64 at_, .slice bo bn bc, .slice ko kn kc, .int .i64 tr] 30)) := (Below.refl _ _).alloc (Nat.le_refl _) _
  have HM1 : Hid (Mem w0 (wx.alloc (.cells #[.int .i64 4, .int .i64 at_, .slice bo bn bc, .slice ko kn kc, .int .i64 tr] 30)) g n b6 c6 b7 c7 a8 n8 c8 ⟨lnow, lsafe, lw, lf, ld, ls⟩ f st) := hM.below hbeL
  have HL1 : Hid (Blk (wx.alloc (.cells #[.int .i64 4, .int .i64 at_, .slice bo bn bc, .slice ko kn kc, .int .i64 tr] 30)) wx.heap.size #[.int .i64 4, .int .i64 at_, .slice bo bn bc, .slice ko kn kc, .int .i64 tr] 30) := Blk.new wx _ _
  have HML : Hid (Mine1 w0.heap.size f wx.heap.size) := hM.new (Nat.le_refl _)
  have HS : Hid (Sim n ⟨lnow, lsafe, lw, lf, ld, ls⟩ st) := hS
  have HM : Hid (Mem w0 wx g n b6 c6 b7 c7 a8 n8 c8 ⟨lnow, lsafe, lw, lf, ld, ls⟩ f st) := hM
  clear hop hop0 hM hS hbeL
  have hd3 : decide (600 < (bn : Int)) = false := decide_eq_false (by omega)
  have hd4 : decide (60 < (kn : Int)) = false := decide_eq_false (by omega)
  unfold fr
  conv => arg 2; whnf
  have HKP : Hid (Bools (wx.alloc (.cells #[.int .i64 4, .int .i64 at_, .slice bo bn bc, .slice ko kn kc, .int .i64 tr] 30)) ko kn kl) := HOP.out.bools.below HM1.out.dk.bel
  have HKB : Hid (∀ ad, ko = some ad → 0 < kn → ¬ f.has ad.block) := fun ad e hp e2 => by have h1 := HM.out.dk.own _ e2; have h2 := HOP.out.bools.lt e hp; omega
  have HKM : Hid (kn ≤ maxLen) := by show kn ≤ maxLen; unfold maxLen; omega
  have HNW : Hid (lw.length = n8) := HM1.out.wt.len
  have hn8 : n8 ≤ 50 := by have := HNW.out; omega
  rcases in3 at_ n with q | ⟨q, q'⟩ | ⟨q, q'⟩
  all_goals
    go_wp2_with fail
    refine (on_is HM1.out.dk ko kn kc kl tr HKP.out HKB.out HKM.out).mono ?_
    rintro e w6 ⟨rfl, hD6, hT6⟩
    have HM6 : Hid (Mem w0 w6 g n b6 c6 b7 c7 a8 n8 c8 ⟨lnow, lsafe, lw, lf, ld, ls⟩ f (st.on kl tr)) := HM1.out.turn hT6 hD6
    have HLo6 : Hid (Blk w6 wx.heap.size #[.int .i64 4, .int .i64 at_, .slice bo bn bc, .slice ko kn kc, .int .i64 tr] 30) := HL1.out.chg hT6.chg HML.out.2
    have HK6 : Hid (Bools w6 ko kn kl) := HKP.out.chg hT6.chg HKB.out
    clear hD6 hT6
    go_wp2_with fail
    go_loopw [7, 272] (fun vs vi w2 => ∃ (j b9 c9 : Nat) (S : List LSec), vi = .int .i64 (j : Int) ∧ vs = .slice (some ⟨b9, 0, none⟩) n c9 ∧ j ≤ n8 ∧ LSecs w2 (Mine1 w0.heap.size f) b9 n c9 S ∧ RowRel S (staysTo kl tr st.safe st.waits j) ∧ Below w6.heap.size w6 w2) (fun _ vi _ => n8 - (intOf vi).toNat)
    case atStart => exact ⟨0, b7, c7, lsafe, rfl, rfl, Nat.zero_le _, HM6.out.sf, HS.out.safes, Below.refl _ _⟩
    case round =>
      obtain ⟨j, b9, c9, S, rfl, rfl, hj, hL, hR, hE⟩ := hrel
      have HLj : Hid (LSecs wr (Mine1 w0.heap.size f) b9 n c9 S) := hL
      have HRj : Hid (RowRel S (staysTo kl tr st.safe st.waits j)) := hR
      have HEj : Hid (Below w6.heap.size w6 wr) := hE
      clear hL hR hE
      by_cases hlt : j < n8
      · have hjl : j < lw.length := by rw [HNW.out]; exact hlt
        have hjs : j < st.waits.length := by have := HS.out.ws.1; simp only at this; omega
        have HWJ : Hid (st.waits[j]? = some st.waits[j]) := List.getElem?_eq_getElem hjs
        obtain ⟨hw1, hw2, hw3⟩ := HS.out.ws.2 j _ _ (List.getElem?_eq_getElem hjl) HWJ.out
        have hats : st.waits[j].1 < st.now.length := HM.out.dk.at_.inv.ats _ (List.getElem_mem hjs)
        have HSrc : Hid (Src w0 (.slice lw[j].bo lw[j].bn lw[j].bc) lw[j].bl) := HM.out.src _ (List.getElem_mem hjl)
        obtain ⟨b8, ha8, x0, x1, x2, x3, x4⟩ := (HM6.out.wt.below HEj.out).get (List.getElem?_eq_getElem hjl)
        subst ha8
        have HST : Hid (staysTo kl tr st.safe st.waits (j + 1) = if kl.getD j false = true then (staysTo kl tr st.safe st.waits j).set st.waits[j].1 (st.waits[j].2, false) else if (j : Int) = tr then (staysTo kl tr st.safe st.waits j).set st.waits[j].1 (zeros, true) else staysTo kl tr st.safe st.waits j) := stays_step _ _ _ _ _ _ HWJ.out
        have hnl : st.now.length = n := by have h1 := HS.out.nows.1; have h2 := HS.out.len; simp only at h1 h2; omega
        rw [hnl] at hats
        clear hnl
        generalize st.waits[j].2 = pc at *
        generalize st.waits[j].1 = ia at *
        generalize lw[j] = oj at *
        obtain ⟨ok, oat, obo, obn, obc, obl, oko, okn, okc, okl, otr⟩ := oj
        simp only at hw1 hw2 hw3 x0 x1 x2 x3 x4
        subst hw1
        have hia' : (ia : Int) < (n : Int) := by omega
        have HLoj : Hid (Blk wr wx.heap.size #[.int .i64 4, .int .i64 at_, .slice bo bn bc, .slice ko kn kc, .int .i64 tr] 30) := HLo6.out.of (HEj.out.block _ HLo6.out.lt)
        have hbeC : Below wr.heap.size wr (wr.alloc (.cells #[.int .i64 ok, .int .i64 (ia : Int), .slice obo obn obc, .slice oko okn okc, .int .i64 otr] 30)) := (Below.refl _ _).alloc (Nat.le_refl _) _
        have HBC : Hid (Below wr.heap.size wr (wr.alloc (.cells #[.int .i64 ok, .int .i64 (ia : Int), .slice obo obn obc, .slice oko okn okc, .int .i64 otr] 30))) := hbeC
        have l3 : (wr.alloc (.cells #[.int .i64 ok, .int .i64 (ia : Int), .slice obo obn obc, .slice oko okn okc, .int .i64 otr] 30)).cell? ⟨wx.heap.size, 3, none⟩ = some (.slice ko kn kc) := (HLoj.out.alloc _).cell 3
        have l4 : (wr.alloc (.cells #[.int .i64 ok, .int .i64 (ia : Int), .slice obo obn obc, .slice oko okn okc, .int .i64 otr] 30)).cell? ⟨wx.heap.size, 4, none⟩ = some (.int .i64 tr) := (HLoj.out.alloc _).cell 4
        have HLc : Hid (LSecs (wr.alloc (.cells #[.int .i64 ok, .int .i64 (ia : Int), .slice obo obn obc, .slice oko okn okc, .int .i64 otr] 30)) (Mine1 w0.heap.size f) b9 n c9 S) := HLj.out.below hbeC
        have HKc : Hid (Bools (wr.alloc (.cells #[.int .i64 ok, .int .i64 (ia : Int), .slice obo obn obc, .slice oko okn okc, .int .i64 otr] 30)) ko kn kl) := (HK6.out.below HEj.out).below hbeC
        have HSc : Hid (Src (wr.alloc (.cells #[.int .i64 ok, .int .i64 (ia : Int), .slice obo obn obc, .slice oko okn okc, .int .i64 otr] 30)) (.slice obo obn obc) obl) := HSrc.out.below ((HM6.out.below HEj.out).dk.below hbeC).bel
        have HPc : Hid (pad obl = pc ∧ obl.length ≤ 512) := ⟨hw3, hw2⟩
        have HEc : Hid (Below w6.heap.size w6 (wr.alloc (.cells #[.int .i64 ok, .int .i64 (ia : Int), .slice obo obn obc, .slice oko okn okc, .int .i64 otr] 30))) := HEj.out.trans (hbeC.mono HEj.out.size)
        have hszc : (wr.alloc (.cells #[.int .i64 ok, .int .i64 (ia : Int), .slice obo obn obc, .slice oko okn okc, .int .i64 otr] 30)).heap.size = wr.heap.size + 1 := by simp
        have HMn : Hid (∀ b, (wr.alloc (.cells #[.int .i64 ok, .int .i64 (ia : Int), .slice obo obn obc, .slice oko okn okc, .int .i64 otr] 30)).heap.size ≤ b → Mine1 w0.heap.size f b) := fun b hb => HM6.out.new (Nat.le_trans HEc.out.size hb)
        clear hbeC hw3 HWJ
        by_cases hkk : kl.getD j false = true
        · have hST := HST.out
          rw [if_pos hkk] at hST
          have HST' : Hid (_ = _) := hST
          have hkl : j < kl.length := by
            rcases Nat.lt_or_ge j kl.length with h | h
            · exact h
            · rw [List.getD_eq_getElem?_getD, List.getElem?_eq_none h] at hkk; cases hkk
          have hkn' : j < kn := by rw [← HKc.out.1]; exact hkl
          obtain ⟨ad, rfl⟩ : ∃ ad, ko = some ad := by
            cases ko with
            | none => have := HKc.out.2.1 rfl; subst this; simp at hkl
            | some ad => exact ⟨ad, rfl⟩
          have kc1 : (wr.alloc (.cells #[.int .i64 ok, .int .i64 (ia : Int), .slice obo obn obc, .slice oko okn okc, .int .i64 otr] 30)).cell? (ad.add j) = some (.bool true) := HKc.out.2.2 ad rfl j true (by rw [List.getElem?_eq_getElem hkl]; rw [List.getD_eq_getElem?_getD, List.getElem?_eq_getElem hkl] at hkk; simpa using hkk)
          have hd5 : decide ((j : Int) < (kn : Int)) = true := decide_eq_true (by omega)
          have j1 := HSc.out.str
          generalize hsv : (⟨obl.toArray⟩ : ByteArray) = sv at *
          have HSV : Hid ((⟨obl.toArray⟩ : ByteArray) = sv) := hsv
          clear hsv hST hkk HST
          go_wp2_with fail
          refine (lput_any b9 n c9 S ia sv false _ HLc.out hats _hn).mono ?_
          rintro e w8 ⟨b10, c10, rfl, hL8, hb8⟩
          have HL9 : Hid (LSecs w8 (Mine1 w0.heap.size f) b10 n c10 (S.set ia (sv, false))) := hL8.mono (HMn.out _ hL8.mine)
          have HR9 : Hid (RowRel (S.set ia (sv, false)) (staysTo kl tr st.safe st.waits (j + 1))) := by
            show RowRel _ _
            rw [HST'.out]
            refine HRj.out.set ia _ _ ?_
            have h1 := HSV.out
            subst h1
            exact ⟨rfl, by show obl.toArray.size ≤ 512; simpa using HPc.out.2, fun _ => by show pad obl.toArray.toList = pc; simpa using HPc.out.1⟩
          have HE9 : Hid (Below w6.heap.size w6 w8) := HEc.out.trans (hb8.mono HEc.out.size)
          clear hL8 hb8 j1 kc1
          go_wp2_with fail
          go_roundw
          case rel => exact ⟨j + 1, b10, c10, _, by go_num, rfl, by omega, HL9.out, HR9.out, HE9.out⟩
          case measure => simp [intOf]; omega
        · by_cases hkt : (j : Int) = tr
          · have hST := HST.out
            rw [if_neg hkk, if_pos hkt] at hST
            have HST' : Hid (_ = _) := hST
            have hbt : ((j : Int) == tr) = true := beq_iff_eq.2 hkt
            clear hST HST hkt
            have hil : ia < S.length := by have := HLj.out.len; omega
            obtain ⟨so, to, hgi⟩ : ∃ so to, S[ia]? = some (so, to) := ⟨S[ia].1, S[ia].2, List.getElem?_eq_getElem hil⟩
            have HSO : Hid (so.size ≤ 512) := by
              have h2 : ia < (staysTo kl tr st.safe st.waits j).length := by rw [← HRj.out.1]; exact hil
              exact (HRj.out.2 ia _ _ hgi (List.getElem?_eq_getElem h2)).2.1
            have HGI : Hid (_ = _) := hgi
            clear hgi
            have z1 := cellX (W0 := (wr.alloc (.cells #[.int .i64 ok, .int .i64 (ia : Int), .slice obo obn obc, .slice oko okn okc, .int .i64 otr] 30)).drew) ((Blk.new wr #[.int .i64 ok, .int .i64 (ia : Int), .slice obo obn obc, .slice oko okn okc, .int .i64 otr] 30).cell 1)
            have z2 := cellX (W0 := (wr.alloc (.cells #[.int .i64 ok, .int .i64 (ia : Int), .slice obo obn obc, .slice oko okn okc, .int .i64 otr] 30)).drew) (HLc.out.get HGI.out).1
            by_cases hkn' : j < kn
            · have hkl : j < kl.length := by rw [HKc.out.1]; exact hkn'
              obtain ⟨ad, rfl⟩ : ∃ ad, ko = some ad := by
                cases ko with
                | none => have := HKc.out.2.1 rfl; subst this; simp at hkl
                | some ad => exact ⟨ad, rfl⟩
              have kc1 : (wr.alloc (.cells #[.int .i64 ok, .int .i64 (ia : Int), .slice obo obn obc, .slice oko okn okc, .int .i64 otr] 30)).cell? (ad.add j) = some (.bool false) := HKc.out.2.2 ad rfl j false (by rw [List.getElem?_eq_getElem hkl]; rw [List.getD_eq_getElem?_getD, List.getElem?_eq_getElem hkl] at hkk; simpa using hkk)
              have hd5 : decide ((j : Int) < (kn : Int)) = true := decide_eq_true (by omega)
              clear hkk
              go_wp2_with fail
              haveI nE := cls_ext (wr.alloc (.cells #[.int .i64 ok, .int .i64 (ia : Int), .slice obo obn obc, .slice oko okn okc, .int .i64 otr] 30)).drew
              refine wp_region_ext (by kernel_rfl) ?_
              refine wpAnyH_seg (by kernel_rfl) (fun _ _ _ h => h) [0, 1, 2, 3, 4, 5, 6, 7, 8, 9] 2 _ _ _ (Ext.refl _) (by kernel_rfl) ?_
              simp only [opsAt, List.getElem?_toArray, List.getElem?_cons_zero, List.getElem?_cons_succ, List.cons_append, List.nil_append]
              repeat (go_big_quiet_step (fail))
              refine wpQuiet_nil ?_
              clear z1 z2 nE
              refine wpAnyH_callE (i := 10) (fuel := 1) 311 rfl (by kernel_rfl) rfl (Ext.refl _) (by kernel_rfl) (f := 11) (args := #[.slice (some ⟨b9, 0, none⟩) n c9, .int .i64 (ia : Int), .agg #[.string so, .bool true]]) (by kernel_rfl) (lput_any b9 n c9 S ia so true _ (HLc.out.below (w' := (wr.alloc (.cells #[.int .i64 ok, .int .i64 (ia : Int), .slice obo obn obc, .slice oko okn okc, .int .i64 otr] 30)).drew) (Below.refl _ _).drew) hats _hn) ?_
              rintro e w8 ⟨b10, c10, rfl, hL8, hb8⟩
              refine ⟨_, rfl, hb8, ?_⟩
              simp only [Act.put, List.setIfInBounds_toArray, List.set_cons_succ, List.set_cons_zero]
              haveI nF := cls_ext w8
              refine wpAnyH_seg (by kernel_rfl) (fun _ _ _ h => h) [11] 0 _ _ _ (Ext.refl _) (by kernel_rfl) ?_
              simp only [opsAt, List.getElem?_toArray, List.getElem?_cons_zero, List.getElem?_cons_succ, List.cons_append, List.nil_append]
              repeat (go_big_quiet_step (fail))
              refine wpQuiet_nil ?_
              refine wpAnyH_done (by kernel_rfl) (NoPanic.normal ?_) 0
              clear nF
              have HL9 : Hid (LSecs w8 (Mine1 w0.heap.size f) b10 n c10 (S.set ia (so, true))) := hL8.mono (HMn.out _ hL8.mine)
              have HR9 : Hid (RowRel (S.set ia (so, true)) (staysTo kl tr st.safe st.waits (j + 1))) := by
                show RowRel _ _
                rw [HST'.out]
                exact HRj.out.set ia _ _ ⟨rfl, HSO.out, fun e => by cases e⟩
              have HE9 : Hid (Below w6.heap.size w6 w8) := (HEc.out.drew).trans (hb8.mono (by show w6.heap.size ≤ (wr.alloc (.cells #[.int .i64 ok, .int .i64 (ia : Int), .slice obo obn obc, .slice oko okn okc, .int .i64 otr] 30)).heap.size; exact HEc.out.size))
              clear hL8 hb8
              go_wp2_with fail
              go_roundw
              case rel => exact ⟨j + 1, b10, c10, _, by go_num, rfl, by omega, HL9.out, HR9.out, HE9.out⟩
              case measure => simp [intOf]; omega
            · have hd5 : decide ((j : Int) < (kn : Int)) = false := decide_eq_false (by omega)
              clear hkk
              go_wp2_with fail
              haveI nE := cls_ext (wr.alloc (.cells #[.int .i64 ok, .int .i64 (ia : Int), .slice obo obn obc, .slice oko okn okc, .int .i64 otr] 30)).drew
              refine wp_region_ext (by kernel_rfl) ?_
              refine wpAnyH_seg (by kernel_rfl) (fun _ _ _ h => h) [0, 1, 2, 3, 4, 5, 6, 7, 8, 9] 2 _ _ _ (Ext.refl _) (by kernel_rfl) ?_
              simp only [opsAt, List.getElem?_toArray, List.getElem?_cons_zero, List.getElem?_cons_succ, List.cons_append, List.nil_append]
              repeat (go_big_quiet_step (fail))
              refine wpQuiet_nil ?_
              clear z1 z2 nE
              refine wpAnyH_callE (i := 10) (fuel := 1) 311 rfl (by kernel_rfl) rfl (Ext.refl _) (by kernel_rfl) (f := 11) (args := #[.slice (some ⟨b9, 0, none⟩) n c9, .int .i64 (ia : Int), .agg #[.string so, .bool true]]) (by kernel_rfl) (lput_any b9 n c9 S ia so true _ (HLc.out.below (w' := (wr.alloc (.cells #[.int .i64 ok, .int .i64 (ia : Int), .slice obo obn obc, .slice oko okn okc, .int .i64 otr] 30)).drew) (Below.refl _ _).drew) hats _hn) ?_
              rintro e w8 ⟨b10, c10, rfl, hL8, hb8⟩
              refine ⟨_, rfl, hb8, ?_⟩
              simp only [Act.put, List.setIfInBounds_toArray, List.set_cons_succ, List.set_cons_zero]
              haveI nF := cls_ext w8
              refine wpAnyH_seg (by kernel_rfl) (fun _ _ _ h => h) [11] 0 _ _ _ (Ext.refl _) (by kernel_rfl) ?_
              simp only [opsAt, List.getElem?_toArray, List.getElem?_cons_zero, List.getElem?_cons_succ, List.cons_append, List.nil_append]
              repeat (go_big_quiet_step (fail))
              refine wpQuiet_nil ?_
              refine wpAnyH_done (by kernel_rfl) (NoPanic.normal ?_) 0
              clear nF
              have HL9 : Hid (LSecs w8 (Mine1 w0.heap.size f) b10 n c10 (S.set ia (so, true))) := hL8.mono (HMn.out _ hL8.mine)
              have HR9 : Hid (RowRel (S.set ia (so, true)) (staysTo kl tr st.safe st.waits (j + 1))) := by
                show RowRel _ _
                rw [HST'.out]
                exact HRj.out.set ia _ _ ⟨rfl, HSO.out, fun e => by cases e⟩
              have HE9 : Hid (Below w6.heap.size w6 w8) := (HEc.out.drew).trans (hb8.mono (by show w6.heap.size ≤ (wr.alloc (.cells #[.int .i64 ok, .int .i64 (ia : Int), .slice obo obn obc, .slice oko okn okc, .int .i64 otr] 30)).heap.size; exact HEc.out.size))
              clear hL8 hb8
              go_wp2_with fail
              go_roundw
              case rel => exact ⟨j + 1, b10, c10, _, by go_num, rfl, by omega, HL9.out, HR9.out, HE9.out⟩
              case measure => simp [intOf]; omega
          · have hST := HST.out
            rw [if_neg hkk, if_neg hkt] at hST
            have HST' : Hid (_ = _) := hST
            have hbt : ((j : Int) == tr) = false := beq_eq_false_iff_ne.2 hkt
            have HR9 : Hid (RowRel S (staysTo kl tr st.safe st.waits (j + 1))) := by show RowRel _ _; rw [HST'.out]; exact HRj.out
            have HL9 : Hid (LSecs _ (Mine1 w0.heap.size f) b9 n c9 S) := HLc.out
            have HE9 : Hid (Below w6.heap.size w6 _) := HEc.out
            clear hST HST
            by_cases hkn' : j < kn
            · have hkl : j < kl.length := by rw [HKc.out.1]; exact hkn'
              obtain ⟨ad, rfl⟩ : ∃ ad, ko = some ad := by
                cases ko with
                | none => have := HKc.out.2.1 rfl; subst this; simp at hkl
                | some ad => exact ⟨ad, rfl⟩
              have kc1 : (wr.alloc (.cells #[.int .i64 ok, .int .i64 (ia : Int), .slice obo obn obc, .slice oko okn okc, .int .i64 otr] 30)).cell? (ad.add j) = some (.bool false) := HKc.out.2.2 ad rfl j false (by rw [List.getElem?_eq_getElem hkl]; rw [List.getD_eq_getElem?_getD, List.getElem?_eq_getElem hkl] at hkk; simpa using hkk)
              have hd5 : decide ((j : Int) < (kn : Int)) = true := decide_eq_true (by omega)
              clear hkk
              go_wp2_with fail
              go_roundw
              case rel => exact ⟨j + 1, b9, c9, _, by go_num, rfl, by omega, HL9.out, HR9.out, HE9.out⟩
              case measure => simp [intOf]; omega
            · have hd5 : decide ((j : Int) < (kn : Int)) = false := decide_eq_false (by omega)
              clear hkk
              go_wp2_with fail
              go_roundw
              case rel => exact ⟨j + 1, b9, c9, _, by go_num, rfl, by omega, HL9.out, HR9.out, HE9.out⟩
              case measure => simp [intOf]; omega
      · have hjn : j = st.waits.length := by have h1 := HS.out.ws.1; have h2 := HNW.out; simp only at h1; omega
        have hR := HRj.out
        rw [hjn] at hR
        have HMx : Hid (Mem w0 wr g n b9 c9 b9 c9 none 0 0 ⟨S, S, [], 0, false, ls⟩ f (st.on kl tr)) := by
          have h := HM6.out.below HEj.out
          exact ⟨h.dk, HLj.out, HLj.out, LOps.empty _ _, fun o ho => by cases ho⟩
        have HSx : Hid (Sim n ⟨S, S, [], 0, false, ls⟩ (st.on kl tr)) := ⟨HLj.out.len, HLj.out.len, hR, hR, WRel.nil, rfl, HS.out.steps, fun _ => rfl, by show (0 : Nat) < _; omega⟩
        clear hR hjn
        go_wp2_with fail
        refine (down_is HMx.out.dk false HSx.out.down.symm).mono ?_
        rintro e w' ⟨rfl, hw⟩; rw [hw]; clear hw w'
        go_wp2_with fail
        refine (steps_is HMx.out.dk ls HSx.out.steps.symm).mono ?_
        rintro e w' ⟨rfl, hw⟩; rw [hw]; clear hw w'
        go_wp2_with fail
        refine (waits_is HMx.out.dk 0 (by rw [← HSx.out.ws.1]; exact HMx.out.wt.len)).mono ?_
        rintro e w' ⟨rfl, hw⟩; rw [hw]; clear hw w'
        go_wp2_with fail
        refine (len_is HMx.out.dk n (by rw [← HSx.out.nows.1]; exact HSx.out.len)).mono ?_
        rintro e w' ⟨rfl, hw⟩; rw [hw]; clear hw w'
        go_wp2_with fail
        refine ⟨⟨k + 1, b9, c9, b9, c9, none, 0, 0, ⟨S, S, [], 0, false, ls⟩, f, (st.on kl tr), ⟨rfl, rfl, rfl, rfl, rfl, rfl, rfl, rfl, rfl, by rfl, rfl, by rfl, by rfl⟩, by omega, by omega, HMx.out, HSx.out, by simp, by show ls ≤ k + 1; omega⟩, ?_⟩
        simp [Rmu, intOf]; omega
end Go.Proofs.Ytpojpmkflgmgkaa

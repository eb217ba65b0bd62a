/- NetRuns: a round that sends, done. Own lemmas, no statement. -/
import Derived.Test.YtcemecclpofhbaaNRun5
import Derived.Deep.CutRange
set_option linter.unusedSimpArgs false
set_option linter.unusedVariables false
namespace Go.Proofs.Ytcemecclpofhbaa
open Go.ChangeShapes Go.WideShapes Go.ChangeAt Go.RowKit

set_option maxRecDepth 100000 in
set_option maxHeartbeats 16000000 in
theorem run_send_ok (w : World) (p : Nat) (ad : Addr) (len cap k n : Nat) (hlt1 : k < len) (hlt2 : k < 60) (T : Nat → Value) (v : Value) (ua : Option Addr) (uc : Nat) (ls us : List LetV) (wr : World) (Q : Exit → Act → World → Prop) (o : OpN) (hl63 : len ≤ 9223372036854775807) (hnk : n ≤ k) (hwp : w.heap.size ≤ p) (hop : OpNAt w ad k o) (hra : RunA w p n v ua uc ls us wr) (h0 : o.k = 0) (hb : 0 ≤ o.at_ ∧ o.at_ < 64) (hb2 : ¬ 200 < o.bn) : Goal w p ad len cap k n ua uc T Q wr := by
  have HK : Hid (o.k = 0) := h0
  have HB2 : Hid (¬ 200 < o.bn) := hb2
  clear h0 hb2
  have huc := hra.uc
  have hn60 : n ≤ 60 := by omega
  have HWP : Hid (w.heap.size ≤ p) := hwp
  have HOP0 : Hid (OpNAt w ad k o) := hop
  have HOP : Hid (OpNAt wr ad k o) := hop.below hra.below
  have HRA : Hid (RunA w p n v ua uc ls us wr) := hra
  have hd1 : decide ((k : Int) < (len : Int)) = true := decide_eq_true (by omega)
  have hd2 : decide ((k : Int) < 60) = true := decide_eq_true (by omega)
  have e0 : wr.cell? (ad.add (k * 5)) = some (.int .i64 o.k) := HOP.out.c0
  have e1 : wr.cell? ⟨(ad.add (k * 5)).block, (ad.add (k * 5)).off + 1, none⟩ = some (.int .i64 o.at_) := cell_on16 (by omega) HOP.out.c1
  have e2 : wr.cell? ⟨(ad.add (k * 5)).block, (ad.add (k * 5)).off + 2, none⟩ = some (.int .i64 o.i) := cell_on16 (by omega) HOP.out.c2
  have e3 : wr.cell? ⟨(ad.add (k * 5)).block, (ad.add (k * 5)).off + 3, none⟩ = some (.slice o.bo o.bn o.bc) := cell_on16 (by omega) HOP.out.c3
  have e4 : wr.cell? ⟨(ad.add (k * 5)).block, (ad.add (k * 5)).off + 4, none⟩ = some (.int .u8 (o.bt.toNat : Int)) := cell_on16 (by omega) HOP.out.c4
  obtain ⟨w3, hw3⟩ : ∃ w3, w3 = wr.alloc (.cells #[.int .i64 o.k, .int .i64 o.at_, .int .i64 o.i, .slice o.bo o.bn o.bc, .int .u8 (o.bt.toNat : Int)] 30) := ⟨_, rfl⟩
  have HB3 : Hid (Blk w3 wr.heap.size #[.int .i64 o.k, .int .i64 o.at_, .int .i64 o.i, .slice o.bo o.bn o.bc, .int .u8 (o.bt.toNat : Int)] 30) := by rw [hw3]; exact Blk.new _ _ _
  have HE3 : Hid (Below wr.heap.size wr w3) := by rw [hw3]; exact below_allocR _
  have ho63 : o.bn ≤ 9223372036854775807 := by have := HOP.out.src.at; unfold maxLen at this; omega
  clear hop hra hwp
  unfold Goal fr
  conv => arg 2; whnf
  go_upto_region 9 with fail
  rw [← hw3]
  clear hw3 e0 e1 e2 e3 e4 hd1 hd2
  have HR3 : Hid (RunA w p n v ua uc ls us w3) := HRA.out.go HE3.out
  have HS3 : Hid (Src w3 (.slice o.bo o.bn o.bc) o.bl ∧ o.bn = o.bl.length) := ⟨HOP.out.src.below HE3.out, HOP.out.src.at.1⟩
  have HWF : Hid ((Lit.int .i64 o.at_).wf = true ∧ (Lit.int .i64 o.i).wf = true) := ⟨HOP.out.w1, HOP.out.w2⟩
  have HQP : Hid (p < wr.heap.size ∧ (∀ i, FP p v ls i → i < wr.heap.size) ∧ ∀ i, FL (.slice ua n uc) us i → i < wr.heap.size) := ⟨HRA.out.x.net.blk.lt, fun i hi => (HRA.out.x.net.fp_lt hi).2, fun i hi => (HRA.out.x.own.lt hi).2⟩
  clear HRA HOP HE3
  generalize wr.heap.size = q at *
  have c0 : w3.cell? ⟨q, 0, none⟩ = some (.int .i64 o.k) := HB3.out.cell 0
  have c1 : w3.cell? ⟨q, 1, none⟩ = some (.int .i64 o.at_) := HB3.out.cell 1
  have c2 : w3.cell? ⟨q, 2, none⟩ = some (.int .i64 o.i) := HB3.out.cell 2
  have c3 : w3.cell? ⟨q, 3, none⟩ = some (.slice o.bo o.bn o.bc) := HB3.out.cell 3
  have c4 : w3.cell? ⟨q, 4, none⟩ = some (.int .u8 (o.bt.toNat : Int)) := HB3.out.cell 4
  have g3 : ¬ 300 < o.bn := by have := HB2.out; omega
  rw [HK.out] at c0
  obtain ⟨hba, hbb⟩ := hb
  go_upto_region 10 with fail
  go_cut [7] from 44 to 53 (fun _ wx => wx = w3)
  case first =>
    rcases in3 o.at_ n with h | ⟨ha, h⟩ | ⟨ha, h⟩
    · go_wp2
      go_meet
      case rel => exact rfl
    · go_wp2
      go_meet
      case rel => exact rfl
    · go_wp2
      go_meet
      case rel => exact rfl
  case rest =>
    rw [hcut]
    clear hcut wc
    have hb2 := HB2.out
    have h8 : decide (o.at_ < 0) = false := decide_eq_false (by omega)
    have h9 : decide (63 < o.at_) = false := decide_eq_false (by omega)
    have h10 : decide (200 < (o.bn : Int)) = false := decide_eq_false (by omega)
    have HBL : Hid (o.bl.length ≤ 300) := by have := HS3.out.2; show _ ≤ _; omega
    have HM0 : Hid (Own (w3.alloc (.cells #[] 5)) w3.heap.size (.slice (some ⟨w3.heap.size, 0, none⟩) 0 0) []) := World.ownsRow_made w3 #[] 0 (Nat.le_refl _) (Nat.zero_le _) rfl
    have HMS : Hid (Src (w3.alloc (.cells #[] 5)) (.slice o.bo o.bn o.bc) o.bl) := HS3.out.1.below (below_allocR _)
    have HSZ : Hid (w3.heap.size ≤ (w3.alloc (.cells #[] 5)).heap.size) := by show _ ≤ _; simp
    have HXA : Hid (Below w3.heap.size w3 (w3.alloc (.cells #[] 5))) := below_allocR _
    have c3a : (w3.alloc (.cells #[] 5)).cell? ⟨q, 3, none⟩ = some (.slice o.bo o.bn o.bc) := (HB3.out.alloc _).cell 3
    go_upto_region 16 with fail
    go_wp2_with (at_builtin; refine wpList_join (w3.alloc (.cells #[] 5)) rfl _ _ rfl w3.heap.size _ [] o.bl HM0.out rfl _ HMS.out rfl (by have := HBL.out; simp; omega) HSZ.out ?_)
    intro v4 w4 ho hg _
    have ho2 : Own w4 w3.heap.size v4 o.bl := ho
    obtain ⟨a4, k4, rfl⟩ := ho2.any
    rw [← HS3.out.2] at ho2 ⊢
    have HM4 : Hid (Own w4 w3.heap.size (.slice a4 o.bn k4) o.bl) := ho2
    have HE4 : Hid (Below w3.heap.size w3 w4) := HXA.out.grown hg HSZ.out (fun k hk => by cases hk; exact Nat.le_refl _)
    clear ho ho2 hg HM0 HMS HSZ HXA c3a
    have HR4 : Hid (RunA w p n v ua uc ls us w4) := HR3.out.go HE4.out
    have HB4 : Hid (Blk w4 q #[.int .i64 o.k, .int .i64 o.at_, .int .i64 o.i, .slice o.bo o.bn o.bc, .int .u8 (o.bt.toNat : Int)] 30) := HB3.out.of (HE4.out.block _ HB3.out.lt)
    have HMF : Hid (∀ i, (Value.slice a4 o.bn k4).ownBlock = some i → w3.heap.size ≤ i ∧ i < w4.heap.size) := fun i hi => World.ownsRow.lt HM4.out i hi
    have HQ3 : Hid (q < w3.heap.size) := HB3.out.lt
    clear c0 c1 c2 c3 c4
    have c1 : w4.cell? ⟨q, 1, none⟩ = some (.int .i64 o.at_) := HB4.out.cell 1
    have HX : Hid (Calls _ _ _ _ _) := send_any p p v ls o.at_ a4 o.bn k4 o.bl w4 HR4.out.x.net HM4.out.src (by have := HBL.out; omega)
    go_wp2_with fail
    refine HX.out.mono ?_
    rintro e w5 hs
    have hQ4 : q < w4.heap.size := by have := HQ3.out; have := HE4.out.size; omega
    obtain ⟨rfl, v5, x, hd, hb5, hN, hC, hF⟩ := send_ok hs ⟨by omega, by omega⟩ (by have := HS3.out.2; omega) (by have := HR4.out.ln; omega)
    have HX5 : Hid (RunX w5 p p v5 (ls ++ [x]) (.slice ua n uc) us) := HR4.out.x.turnN hN hC (fun i hi => by
      rcases hi with e | e
      · exact .inl e
      · exact .inr (.inl e)) hF
    have HB5 : Hid (Blk w5 q #[.int .i64 o.k, .int .i64 o.at_, .int .i64 o.i, .slice o.bo o.bn o.bc, .int .u8 (o.bt.toNat : Int)] 30) := HB4.out.of (hC.block q hQ4 (fun e => by
      rcases e with e | e
      · have := HQP.out.1; omega
      · have := HQP.out.2.1 q (.inr (.inl e)); omega))
    have HM : Hid (Own w5 w3.heap.size (.slice a4 o.bn k4) o.bl) := owns_kept HM4.out (fun g hg => NetI.after HR3.out.x.net hC g (HMF.out g hg).1 (HMF.out g hg).2)
    have HY5 : Hid (Below w.heap.size w w5) := HR4.out.below.trans ((HR4.out.x.net.base_below hC).mono HWP.out)
    have HD : Hid (x.dst = o.at_ ∧ x.bs = o.bl) := ⟨hd, hb5⟩
    have HF : Hid (∀ i, FP p v5 (ls ++ [x]) i → FP p v ls i ∨ w4.heap.size ≤ i) := hF
    clear hs hd hb5 hN hC hF hQ4 HX c1
    go_wp2_with fail
    go_loopw [85] (fun i wr => ∃ (j : Nat) (l' : List UInt8), i = .int .i64 j ∧ j ≤ o.bn ∧ l'.length = o.bn ∧ Own wr w3.heap.size (.slice a4 o.bn k4) l' ∧ Chg (fun i => (Value.slice a4 o.bn k4).ownBlock = some i) w5 wr) (fun i _ => o.bn - (intOf i).toNat)
    case atStart => exact ⟨0, o.bl, rfl, Nat.zero_le _, HS3.out.2.symm, HM.out, Chg.refl _ _⟩
    case round =>
      obtain ⟨j, l', rfl, hjl, hll, hown, hchg⟩ := hrel
      by_cases hlt : j < o.bn
      · obtain ⟨g4, cap4, cur4, hv4, hbk4, hic4, hc41, hc42, ⟨ob, hob, kb⟩, hset⟩ := own_set2 hown (i := j) (by omega)
        have hsl : Chg (fun i => (Value.slice a4 o.bn k4).ownBlock = some i) w5 (wr.setCell ⟨g4, j, none⟩ (.int .u8 ((ob ^^^ 255).toNat : Int))) := hchg.setCell ⟨g4, j, none⟩ (fun _ => by rw [hv4]; rfl) _
        have HSL : Hid (Chg _ w5 _) := hsl
        have HSET : Hid (Own (wr.setCell ⟨g4, j, none⟩ (.int .u8 ((ob ^^^ 255).toNat : Int))) w3.heap.size (.slice a4 o.bn k4) (l'.set j (ob ^^^ 255))) := hset _
        have HLL : Hid (l'.length = o.bn) := hll
        have hfz := hbk4.frozen j
        have hx8 : bits .xor .u8 (ob.toNat : Int) 255 = ((ob ^^^ 255).toNat : Int) := xor_u8 ob 255
        simp only [Value.slice.injEq] at hv4
        obtain ⟨rfl, _, _⟩ := hv4
        have hjn : (j : Int) < (o.bn : Int) := by omega
        clear hown hchg hll hsl hset hob hbk4 hic4 hc41 hc42
        go_wp2
        go_roundw
        case rel => exact ⟨j + 1, _, by go_num, by omega, by rw [List.length_set]; exact HLL.out, HSET.out, HSL.out⟩
        case measure => simp [intOf]; omega
      · have HCL : Hid (Chg (fun i => (Value.slice a4 o.bn k4).ownBlock = some i) w5 wr) := hchg
        clear hown hchg hll
        have hpq := HQP.out.1
        have hq3 := HQ3.out
        have hwp := HWP.out
        have HX6 : Hid (RunX wr p p v5 (ls ++ [x]) (.slice ua n uc) us) := HX5.out.chg HCL.out (fun i hi hs => by
          have h1 := HMF.out i hs
          rcases HF.out i hi with e | e
          · have := HQP.out.2.1 i e; omega
          · omega) (fun i hi hs => by
          have h1 := HMF.out i hs
          have := HQP.out.2.2 i hi
          omega)
        have HB6 : Hid (Blk wr q #[.int .i64 o.k, .int .i64 o.at_, .int .i64 o.i, .slice o.bo o.bn o.bc, .int .u8 (o.bt.toNat : Int)] 30) := HB5.out.of (HCL.out.block q HB5.out.lt (fun e => by have := (HMF.out q e).1; omega))
        have HY6 : Hid (Below w.heap.size w wr) := HY5.out.trans (Chg.below HCL.out (by have := HB5.out.lt; omega) (fun i hi => by have := (HMF.out i hi).1; omega))
        have HUL : Hid (us.length = n ∧ ls.map LetV.q = us.map LetV.q) := ⟨HR3.out.len, HR3.out.q⟩
        clear HCL HM HX5 HB5 HY5 HM4 HMF HF HB4 HR4 HE4 HB3 HR3 hpq hq3 hwp HQP HQ3
        go_upto_region 25 with fail
        refine wp_region_seg (fun W => Blk W q #[.int .i64 o.k, .int .i64 o.at_, .int .i64 o.i, .slice o.bo o.bn o.bc, .int .u8 (o.bt.toNat : Int)] 30) (by kernel_rfl) ?_
        have HX7 : Hid (RunX wr.drew p p v5 (ls ++ [x]) (.slice ua n uc) us) := HX6.out.below (Below.drew (Below.refl _ _))
        have HB7 : Hid (Blk wr.drew q #[.int .i64 o.k, .int .i64 o.at_, .int .i64 o.i, .slice o.bo o.bn o.bc, .int .u8 (o.bt.toNat : Int)] 30) := HB6.out
        have HY7 : Hid (Below w.heap.size w wr.drew) := Below.drew HY6.out
        clear HX6 HB6 HY6
        generalize wr.drew = w7 at *
        have HSB : Hid (Src w7 (.slice o.bo o.bn o.bc) o.bl) := (HOP0.out.below HY7.out).src
        have hb7 : Blk w7 q #[.int .i64 o.k, .int .i64 o.at_, .int .i64 o.i, .slice o.bo o.bn o.bc, .int .u8 (o.bt.toNat : Int)] 30 := HB7.out
        haveI nA : Nonempty (Cls (fun W => Blk W q #[.int .i64 o.k, .int .i64 o.at_, .int .i64 o.i, .slice o.bo o.bn o.bc, .int .u8 (o.bt.toNat : Int)] 30)) := ⟨⟨w7, hb7⟩⟩
        have x1 : ∀ s : Cls (fun W => Blk W q #[.int .i64 o.k, .int .i64 o.at_, .int .i64 o.i, .slice o.bo o.bn o.bc, .int .u8 (o.bt.toNat : Int)] 30), s.wd.cell? ⟨q, 1, none⟩ = some (.int .i64 o.at_) := fun s => s.ok.cell 1
        have x3 : ∀ s : Cls (fun W => Blk W q #[.int .i64 o.k, .int .i64 o.at_, .int .i64 o.i, .slice o.bo o.bn o.bc, .int .u8 (o.bt.toNat : Int)] 30), s.wd.cell? ⟨q, 3, none⟩ = some (.slice o.bo o.bn o.bc) := fun s => s.ok.cell 3
        refine wpAnyH_seg (by kernel_rfl) (fun _ _ _ h => h) [0, 1, 2, 4, 5] 6 _ _ _ hb7 (by kernel_rfl) ?_
        simp only [opsAt, List.getElem?_toArray, List.getElem?_cons_zero, List.getElem?_cons_succ, List.cons_append, List.nil_append]
        repeat (go_big_quiet_step (fail))
        refine wpQuiet_nil ?_
        clear x1 x3 hb7
        refine wpAnyH_all (rs := [3]) (fuel := 5) (by kernel_rfl) (by simp) fun jj hjj => ?_
        obtain rfl : jj = 3 := by simpa using hjj
        clear hjj
        refine wpOp_value 100 rfl (by kernel_rfl) rfl (exec_build0 rfl) ?_
        refine ⟨Blk.alloc HB7.out _, ?_⟩
        simp only [Act.put, List.setIfInBounds_toArray, List.set_cons_succ, List.set_cons_zero]
        obtain ⟨a8, c8, w8, hr, ho8, hg8⟩ := run_join (w7.alloc (.cells #[] 5)) 28 w7.heap.size (.slice (some ⟨w7.heap.size, 0, none⟩) 0 0) (.slice o.bo o.bn o.bc) [] o.bl (World.ownsRow_made w7 #[] 0 (Nat.le_refl _) (Nat.zero_le _) rfl) (HSB.out.below (below_allocR _)) (by have := HBL.out; simp; omega) (by simp)
        simp only [List.nil_append] at hr ho8
        rw [← HS3.out.2] at hr ho8
        have HR : Hid _ := hr
        have HO8 : Hid (Own w8 w7.heap.size (.slice a8 o.bn c8) o.bl) := ho8
        have HE8 : Hid (Below w7.heap.size w7 w8) := Below.grown (below_allocR _) hg8 (by simp) (fun k hk => by cases hk; exact Nat.le_refl _)
        have hb8 : Blk w8 q #[.int .i64 o.k, .int .i64 o.at_, .int .i64 o.i, .slice o.bo o.bn o.bc, .int .u8 (o.bt.toNat : Int)] 30 := HB7.out.of (HE8.out.block _ HB7.out.lt)
        clear hr ho8 hg8
        refine wpAnyH_all (rs := [6]) (fuel := 4) (by kernel_rfl) (by simp) fun jj hjj => ?_
        obtain rfl : jj = 6 := by simpa using hjj
        clear hjj
        refine wpOp_value 103 rfl (by kernel_rfl) rfl (exec_app rfl rfl rfl HR.out) ?_
        refine ⟨hb8, ?_⟩
        clear HR
        simp only [Act.put, List.setIfInBounds_toArray, List.set_cons_succ, List.set_cons_zero]
        refine wpAnyH_seg (by kernel_rfl) (fun _ _ _ h => h) [7] 3 _ _ _ hb8 (by kernel_rfl) ?_
        simp only [opsAt, List.getElem?_toArray, List.getElem?_cons_zero, List.getElem?_cons_succ, List.cons_append, List.nil_append]
        repeat (go_big_quiet_step (fail))
        refine wpQuiet_nil ?_
        refine wpAnyH_all (rs := [8]) (fuel := 2) (by kernel_rfl) (by simp) fun jj hjj => ?_
        obtain rfl : jj = 8 := by simpa using hjj
        clear hjj
        refine wpOp_value 105 rfl (by kernel_rfl) rfl (exec_buildL rfl rfl) ?_
        refine ⟨hb8.alloc _, ?_⟩
        simp only [Act.put, List.setIfInBounds_toArray, List.set_cons_succ, List.set_cons_zero]
        obtain ⟨y, hy⟩ : ∃ y : LetV, y = ⟨o.at_, a8, o.bn, c8, o.bl⟩ := ⟨_, rfl⟩
        have HYE : Hid (y = ⟨o.at_, a8, o.bn, c8, o.bl⟩) := hy
        clear hy
        have HPU : Hid _ := run_pushL w8 25 p (.slice ua n uc) us y (HX7.out.own.below HE8.out).own (by have := HUL.out.1; omega) (by have := HX7.out.net.blk.lt; have := HE8.out.size; omega)
        obtain ⟨a9, c9, w9, hr, ho9, hg9, hat9⟩ := HPU.out
        have hyc : y.cs.toArray = #[.int .i64 o.at_, .slice a8 o.bn c8] := by rw [HYE.out]; rfl
        rw [hyc] at hr
        obtain ⟨hL, hC, hF⟩ := LetI.push HX7.out.own (by have := HX7.out.net.blk.lt; omega) (x := y) (by rw [HYE.out]; exact HO8.out) HE8.out ho9 hg9 hat9
        have hlen : (us ++ [y]).length = n + 1 := by rw [List.length_append, HUL.out.1]; rfl
        rw [hlen] at hr hL hF
        have HR : Hid _ := hr
        have hb9 : Blk w9 q #[.int .i64 o.k, .int .i64 o.at_, .int .i64 o.i, .slice o.bo o.bn o.bc, .int .u8 (o.bt.toNat : Int)] 30 := HB7.out.of (hC.block q HB7.out.lt (fun e => by
          have := HX7.out.own.own.2
          rcases this with ⟨e2, _⟩ | ⟨g, cap, cur, e2, _, hg', _⟩
          · rw [e2] at e; cases e
          · rw [e2] at e
            simp [Value.ownBlock] at e
            subst e
            exact absurd (HB7.out.inj hg').2 (by decide)))
        have HR9 : Hid (RunA w p (n + 1) v5 a9 c9 (ls ++ [x]) (us ++ [y]) w9) := ⟨HX7.out.turnL hL hC (fun i hi => .inl hi) hF, by
          rw [List.map_append, List.map_append, HUL.out.2]
          unfold LetV.q
          simp only [List.map_cons, List.map_nil]
          rw [HD.out.1, HD.out.2, HYE.out], hlen, HY7.out.trans (Below.mono (Chg.below hC (by have := HX7.out.net.blk.lt; omega) (fun i hi => (HX7.out.own.own.lt i hi).1)) HWP.out)⟩
        clear hr hL hC hF ho9 hg9 hat9 HPU hyc hlen
        refine wpAnyH_all (rs := [9]) (fuel := 1) (by kernel_rfl) (by simp) fun jj hjj => ?_
        obtain rfl : jj = 9 := by simpa using hjj
        clear hjj
        refine wpOp_value 106 rfl (by kernel_rfl) rfl (exec_app rfl rfl rfl HR.out) ?_
        refine ⟨hb9, ?_⟩
        clear HR
        simp only [Act.put, List.setIfInBounds_toArray, List.set_cons_succ, List.set_cons_zero]
        refine wpAnyH_seg (by kernel_rfl) (fun _ _ _ h => h) [10] 0 _ _ _ hb9 (by kernel_rfl) ?_
        simp only [opsAt, List.getElem?_toArray, List.getElem?_cons_zero, List.getElem?_cons_succ, List.cons_append, List.nil_append]
        repeat (go_big_quiet_step (fail))
        refine wpQuiet_nil ?_
        clear nA hb8 hb9
        refine wpAnyH_done (by kernel_rfl) (NoPanic.normal ?_) 0
        clear HX7 HB7 HY7 HSB HO8 HE8 HS3 HUL HD
        have HX : Hid (Calls _ _ _ _ _) := len_any p p v5 (ls ++ [x]) w9 HR9.out.x.net
        rw [HR9.out.ln] at HX
        go_wp2_with fail
        refine HX.out.mono ?_
        rintro e wz ⟨rfl, hw⟩
        rw [hw]
        clear hw wz HX
        go_wp2_with fail
        refine ⟨⟨k + 1, n + 1, v5, _, _, _, _, ⟨rfl, rfl, rfl, rfl, rfl, rfl, by go_num⟩, by omega, by omega, by omega, HWP.out, HR9.out⟩, ?_⟩
        simp [Rmu, intOf]; omega
end Go.Proofs.Ytcemecclpofhbaa

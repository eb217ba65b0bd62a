/- NetRuns: a round that doubles. Own lemmas, no statement. -/
import Derived.Test.YtcemecclpofhbaaNRun5
set_option linter.unusedSimpArgs false
set_option linter.unusedVariables false
namespace Go.Proofs.Ytcemecclpofhbaa
open Go.ChangeShapes Go.WideShapes Go.ChangeAt Go.RowKit

theorem twice_no {B p : Nat} {v : Value} {ls : List LetV} {a : Int} {w : World} {e : Ending} {w' : World} (h : TwiceP B p v ls a w e w') (ha : a < 0 ∨ (ls.length : Int) ≤ a) : e = .returned (.int .i64 4) ∧ Below w.heap.size w w' := by
  rcases h with ⟨_, h⟩ | ⟨x, i, h1, h2, _⟩
  · exact h
  · have := (List.getElem?_eq_some_iff.1 h2).1
    omega
set_option maxRecDepth 100000 in
set_option maxHeartbeats 32000000 in
theorem run_twice (w : World) (p : Nat) (ad : Addr) (len cap k n : Nat) (hlt1 : k < len) (hlt2 : k < 60) (T : Nat → Value) (v : Value) (ua : Option Addr) (uc : Nat) (ls us : List LetV) (wr : World) (Q : Exit → Act → World → Prop) (o : OpN) (hl63 : len ≤ 9223372036854775807) (hnk : n ≤ k) (hwp : w.heap.size ≤ p) (hop : OpNAt w ad k o) (hra : RunA w p n v ua uc ls us wr) (h0 : o.k = 3) : Goal w p ad len cap k n ua uc T Q wr := by
  have HK : Hid (o.k = 3) := h0
  clear h0
  have huc := hra.uc
  have hn60 : n ≤ 60 := by omega
  have HWP : Hid (w.heap.size ≤ p) := hwp
  have HOP0 : Hid (OpNAt w ad k o) := hop
  have HOP : Hid (OpNAt wr ad k o) := hop.below hra.below
  have HRA : Hid (RunA w p n v ua uc ls us wr) := hra
  have hd1 : decide ((k : Int) < (len : Int)) = true := decide_eq_true (by omega)
  have hd2 : decide ((k : Int) < 60) = true := decide_eq_true (by omega)
  have e0 : wr.cell? (ad.add (k * 5)) = some (.int .i64 o.k) := HOP.out.c0
  have e1 : wr.cell? ⟨(ad.add (k * 5)).block, (ad.add (k * 5)).off + 1, none⟩ = some (.int .i64 o.at_) := cell_on16 (by omega) HOP.out.c1
  have e2 : wr.cell? ⟨(ad.add (k * 5)).block, (ad.add (k * 5)).off + 2, none⟩ = some (.int .i64 o.i) := cell_on16 (by omega) HOP.out.c2
  have e3 : wr.cell? ⟨(ad.add (k * 5)).block, (ad.add (k * 5)).off + 3, none⟩ = some (.slice o.bo o.bn o.bc) := cell_on16 (by omega) HOP.out.c3
  have e4 : wr.cell? ⟨(ad.add (k * 5)).block, (ad.add (k * 5)).off + 4, none⟩ = some (.int .u8 (o.bt.toNat : Int)) := cell_on16 (by omega) HOP.out.c4
  obtain ⟨w3, hw3⟩ : ∃ w3, w3 = wr.alloc (.cells #[.int .i64 o.k, .int .i64 o.at_, .int .i64 o.i, .slice o.bo o.bn o.bc, .int .u8 (o.bt.toNat : Int)] 30) := ⟨_, rfl⟩
  have HB3 : Hid (Blk w3 wr.heap.size #[.int .i64 o.k, .int .i64 o.at_, .int .i64 o.i, .slice o.bo o.bn o.bc, .int .u8 (o.bt.toNat : Int)] 30) := by rw [hw3]; exact Blk.new _ _ _
  have HE3 : Hid (Below wr.heap.size wr w3) := by rw [hw3]; exact below_allocR _
  have ho63 : o.bn ≤ 9223372036854775807 := by have := HOP.out.src.at; unfold maxLen at this; omega
  clear hop hra hwp
  unfold Goal fr
  conv => arg 2; whnf
  go_upto_region 9 with fail
  rw [← hw3]
  clear hw3 e0 e1 e2 e3 e4 hd1 hd2
  have HR3 : Hid (RunA w p n v ua uc ls us w3) := HRA.out.go HE3.out
  have HS3 : Hid (Src w3 (.slice o.bo o.bn o.bc) o.bl ∧ o.bn = o.bl.length) := ⟨HOP.out.src.below HE3.out, HOP.out.src.at.1⟩
  have HWF : Hid ((Lit.int .i64 o.at_).wf = true ∧ (Lit.int .i64 o.i).wf = true) := ⟨HOP.out.w1, HOP.out.w2⟩
  have HQP : Hid (p < wr.heap.size ∧ (∀ i, FP p v ls i → i < wr.heap.size) ∧ ∀ i, FL (.slice ua n uc) us i → i < wr.heap.size) := ⟨HRA.out.x.net.blk.lt, fun i hi => (HRA.out.x.net.fp_lt hi).2, fun i hi => (HRA.out.x.own.lt hi).2⟩
  clear HRA HOP HE3
  generalize wr.heap.size = q at *
  have c0 : w3.cell? ⟨q, 0, none⟩ = some (.int .i64 o.k) := HB3.out.cell 0
  have c1 : w3.cell? ⟨q, 1, none⟩ = some (.int .i64 o.at_) := HB3.out.cell 1
  have c2 : w3.cell? ⟨q, 2, none⟩ = some (.int .i64 o.i) := HB3.out.cell 2
  have c3 : w3.cell? ⟨q, 3, none⟩ = some (.slice o.bo o.bn o.bc) := HB3.out.cell 3
  have c4 : w3.cell? ⟨q, 4, none⟩ = some (.int .u8 (o.bt.toNat : Int)) := HB3.out.cell 4
  by_cases g3 : 300 < o.bn
  · go_wp2_with fail
    refine ⟨⟨k + 1, n, v, ua, uc, ls, us, ⟨rfl, rfl, rfl, rfl, rfl, rfl, by go_num⟩, by omega, by omega, by omega, HWP.out, HR3.out⟩, ?_⟩
    simp [Rmu, intOf]; omega
  rw [HK.out] at c0
  have HX : Hid (Calls _ _ _ _ _) := twice_any p p v ls o.at_ w3 HR3.out.x.net
  rcases in3 o.at_ n with h | ⟨ha, h⟩ | ⟨ha, h⟩
  · have HNO : Hid (∀ e w', TwiceP p p v ls o.at_ w3 e w' → e = .returned (.int .i64 4) ∧ Below w3.heap.size w3 w') := fun e w' hs => twice_no hs (by have := of_decide_eq_false h; omega)
    go_wp2_with fail
    refine HX.out.mono ?_
    rintro e w4 hs
    obtain ⟨rfl, y⟩ := HNO.out _ _ hs
    have HR4 : Hid (RunA w p n v ua uc ls us w4) := HR3.out.go y
    clear y hs HX HNO HR3 HB3 HS3 c0 c1 c2 c3 c4
    have HX : Hid (Calls _ _ _ _ _) := len_any p p v ls w4 HR4.out.x.net
    rw [HR4.out.ln] at HX
    go_wp2_with fail
    refine HX.out.mono ?_
    rintro e wz ⟨rfl, hw⟩
    rw [hw]
    clear hw wz HX
    go_wp2_with fail
    refine ⟨⟨k + 1, n, v, _, uc, ls, us, ⟨rfl, rfl, rfl, rfl, rfl, rfl, by go_num⟩, by omega, by omega, by omega, HWP.out, HR4.out⟩, ?_⟩
    simp [Rmu, intOf]; omega
  · have HNO : Hid (∀ e w', TwiceP p p v ls o.at_ w3 e w' → e = .returned (.int .i64 4) ∧ Below w3.heap.size w3 w') := fun e w' hs => twice_no hs (by have := of_decide_eq_false h; have := HR3.out.ln; omega)
    go_wp2_with fail
    refine HX.out.mono ?_
    rintro e w4 hs
    obtain ⟨rfl, y⟩ := HNO.out _ _ hs
    have HR4 : Hid (RunA w p n v ua uc ls us w4) := HR3.out.go y
    clear y hs HX HNO HR3 HB3 HS3 c0 c1 c2 c3 c4
    have HX : Hid (Calls _ _ _ _ _) := len_any p p v ls w4 HR4.out.x.net
    rw [HR4.out.ln] at HX
    go_wp2_with fail
    refine HX.out.mono ?_
    rintro e wz ⟨rfl, hw⟩
    rw [hw]
    clear hw wz HX
    go_wp2_with fail
    refine ⟨⟨k + 1, n, v, _, uc, ls, us, ⟨rfl, rfl, rfl, rfl, rfl, rfl, by go_num⟩, by omega, by omega, by omega, HWP.out, HR4.out⟩, ?_⟩
    simp [Rmu, intOf]; omega
  · have h5 := of_decide_eq_true h
    have h6 := of_decide_eq_true ha
    obtain ⟨j, hj⟩ : ∃ j : Nat, o.at_ = (j : Int) := ⟨o.at_.toNat, by omega⟩
    rw [hj] at h h5 h6 ha HX c1
    have HJ : Hid (o.at_ = (j : Int)) := hj
    have hjn : j < n := by omega
    obtain ⟨g, x, y, hua, hx, hy, hd, hb⟩ := HR3.out.own_at hjn
    subst hua
    have HXX : Hid (ls[j]? = some x ∧ x.dst = y.dst ∧ x.bs = y.bs) := ⟨hx, hd, hb⟩
    have HXY : Hid (us[j]? = some y) := hy
    have hyn : y.n = y.bs.length := (HR3.out.x.own.el y (List.mem_of_getElem? hy)).src.at.1
    have HYN : Hid (y.n = y.bs.length) := hyn
    have HYL : Hid (y.bs.length ≤ 200) := by
      have := (HR3.out.x.net.el x (List.mem_of_getElem? hx)).2.1
      rw [hb] at this
      exact this
    clear hx hy hd hb hyn hj
    have hjl : (j : Int) < (n : Int) := by omega
    clear h5 h6
    go_wp2_with fail
    refine HX.out.mono ?_
    rintro e w5 ht
    have hr : e = .returned (.int .i64 0) ∧ ∃ v5 x5, x5.dst = x.dst ∧ x5.bs = x.bs ∧ NetI w5 p p v5 (ls ++ [x5]) ∧ Chg (fun i => i = p ∨ v.ownBlock = some i) w3 w5 ∧ ∀ i, FP p v5 (ls ++ [x5]) i → FP p v ls i ∨ w3.heap.size ≤ i := by
      have h1 := HR3.out.ln
      rcases ht with ⟨h, _⟩ | ⟨x', i', hi, hx, h | ⟨_, h, v3, y, hd, hb, hN, hC, hF⟩⟩
      · exact absurd h (by unfold inB; rw [decide_eq_true (by omega)]; decide)
      · omega
      · have e1 : j = i' := by omega
        subst e1
        have e2 := HXX.out.1
        rw [hx] at e2
        cases e2
        exact ⟨h, v3, y, hd, hb, hN, hC, hF⟩
    obtain ⟨rfl, v5, x5, hd, hb, hN, hC, hF⟩ := hr
    have HX5 : Hid (RunX w5 p p v5 (ls ++ [x5]) (.slice (some ⟨g, 0, none⟩) n uc) us) := HR3.out.x.turnN hN hC (fun i hi => by
      rcases hi with e | e
      · exact .inl e
      · exact .inr (.inl e)) hF
    have HB5 : Hid (Blk w5 q #[.int .i64 o.k, .int .i64 o.at_, .int .i64 o.i, .slice o.bo o.bn o.bc, .int .u8 (o.bt.toNat : Int)] 30) := HB3.out.of (hC.block q HB3.out.lt (fun e => by
      rcases e with e | e
      · have := HQP.out.1; omega
      · have := HQP.out.2.1 q (.inr (.inl e)); omega))
    have HY5 : Hid (Below w.heap.size w w5) := HR3.out.below.trans ((HR3.out.x.net.base_below hC).mono HWP.out)
    have HD : Hid (x5.dst = y.dst ∧ x5.bs = y.bs) := ⟨hd.trans HXX.out.2.1, hb.trans HXX.out.2.2⟩
    have HUL : Hid (us.length = n ∧ ls.map LetV.q = us.map LetV.q) := ⟨HR3.out.len, HR3.out.q⟩
    clear ht hd hb hN hC hF HX c0 c1 c2 c3 c4 HR3 HB3 HS3 HQP HXX
    have c1 : w5.cell? ⟨q, 1, none⟩ = some (.int .i64 (j : Int)) := by rw [← HJ.out]; exact HB5.out.cell 1
    go_upto_region 48 with fail
    refine wp_region_seg (fun W => Blk W q #[.int .i64 o.k, .int .i64 o.at_, .int .i64 o.i, .slice o.bo o.bn o.bc, .int .u8 (o.bt.toNat : Int)] 30) (by kernel_rfl) ?_
    have HX7 : Hid (RunX w5.drew p p v5 (ls ++ [x5]) (.slice (some ⟨g, 0, none⟩) n uc) us) := HX5.out.below (Below.drew (Below.refl _ _))
    have HB7 : Hid (Blk w5.drew q #[.int .i64 o.k, .int .i64 o.at_, .int .i64 o.i, .slice o.bo o.bn o.bc, .int .u8 (o.bt.toNat : Int)] 30) := HB5.out
    have HY7 : Hid (Below w.heap.size w w5.drew) := Below.drew HY5.out
    clear HX5 HB5 HY5 c1
    generalize w5.drew = w7 at *
    have HSB : Hid (Src w7 (.slice y.a y.n y.c) y.bs) := (HX7.out.own.el y (List.mem_of_getElem? HXY.out)).src
    have hb7 : Blk w7 q #[.int .i64 o.k, .int .i64 o.at_, .int .i64 o.i, .slice o.bo o.bn o.bc, .int .u8 (o.bt.toNat : Int)] 30 := HB7.out
    haveI nA : Nonempty (Cls (fun W => Blk W q #[.int .i64 o.k, .int .i64 o.at_, .int .i64 o.i, .slice o.bo o.bn o.bc, .int .u8 (o.bt.toNat : Int)] 30)) := ⟨⟨w7, hb7⟩⟩
    have x1 : ∀ s : Cls (fun W => Blk W q #[.int .i64 o.k, .int .i64 o.at_, .int .i64 o.i, .slice o.bo o.bn o.bc, .int .u8 (o.bt.toNat : Int)] 30), s.wd.cell? ⟨q, 1, none⟩ = some (.int .i64 (j : Int)) := fun s => by rw [← HJ.out]; exact s.ok.cell 1
    refine wpAnyH_seg (by kernel_rfl) (fun _ _ _ h => h) [0, 1, 2, 3, 4, 5, 8, 9, 10, 11, 12] 8 _ _ _ hb7 (by kernel_rfl) ?_
    simp only [opsAt, List.getElem?_toArray, List.getElem?_cons_zero, List.getElem?_cons_succ, List.cons_append, List.nil_append]
    repeat (go_big_quiet_step (fail))
    refine wpQuiet_nil ?_
    clear x1 hb7
    refine wpAnyH_all (rs := [6, 7, 13]) (fuel := 7) (by kernel_rfl) (by simp) fun jj hjj => ?_
    rcases (show jj = 6 ∨ jj = 7 ∨ jj = 13 by simpa using hjj) with rfl | rfl | rfl
    · clear hjj
      refine wpOp_value 222 rfl (by kernel_rfl) rfl (exec_load1 rfl rfl Try.underlying3 rfl ((HX7.out.own.cell HXY.out).1)) ?_
      refine ⟨HB7.out, ?_⟩
      simp only [Act.put, List.setIfInBounds_toArray, List.set_cons_succ, List.set_cons_zero]
      refine wpAnyH_all (rs := [7, 13]) (fuel := 6) (by kernel_rfl) (by simp) fun jj hjj => ?_
      rcases (show jj = 7 ∨ jj = 13 by simpa using hjj) with rfl | rfl
      · clear hjj
        refine wpOp_value 223 rfl (by kernel_rfl) rfl (exec_build0 rfl) ?_
        refine ⟨Blk.alloc HB7.out _, ?_⟩
        simp only [Act.put, List.setIfInBounds_toArray, List.set_cons_succ, List.set_cons_zero]
        refine wpAnyH_all (rs := [13]) (fuel := 5) (by kernel_rfl) (by simp) fun jj hjj => ?_
        obtain rfl : jj = 13 := by simpa using hjj
        clear hjj
        refine wpOp_value 229 rfl (by kernel_rfl) rfl (exec_load1 rfl rfl Try.underlying28 rfl (((HX7.out.own.below (below_allocR _)).cell HXY.out).2)) ?_
        refine ⟨Blk.alloc HB7.out _, ?_⟩
        simp only [Act.put, List.setIfInBounds_toArray, List.set_cons_succ, List.set_cons_zero]
        refine wpAnyH_all (rs := [14]) (fuel := 4) (by kernel_rfl) (by simp) fun jj hjj => ?_
        obtain rfl : jj = 14 := by simpa using hjj
        clear hjj
        obtain ⟨a8, c8, w8, hr, ho8, hg8⟩ := run_join (w7.alloc (.cells #[] 5)) 28 w7.heap.size (.slice (some ⟨w7.heap.size, 0, none⟩) 0 0) (.slice y.a y.n y.c) [] y.bs (World.ownsRow_made w7 #[] 0 (Nat.le_refl _) (Nat.zero_le _) rfl) (HSB.out.below (below_allocR _)) (by have := HYL.out; simp; omega) (by simp)
        simp only [List.nil_append] at hr ho8
        rw [← HYN.out] at hr ho8
        have HR : Hid _ := hr
        have HO8 : Hid (Own w8 w7.heap.size (.slice a8 y.n c8) y.bs) := ho8
        have HE8 : Hid (Below w7.heap.size w7 w8) := Below.grown (below_allocR _) hg8 (by simp) (fun k hk => by cases hk; exact Nat.le_refl _)
        have hb8 : Blk w8 q #[.int .i64 o.k, .int .i64 o.at_, .int .i64 o.i, .slice o.bo o.bn o.bc, .int .u8 (o.bt.toNat : Int)] 30 := HB7.out.of (HE8.out.block _ HB7.out.lt)
        clear hr ho8 hg8
        refine wpOp_value 230 rfl (by kernel_rfl) rfl (exec_app rfl rfl rfl HR.out) ?_
        refine ⟨hb8, ?_⟩
        clear HR
        simp only [Act.put, List.setIfInBounds_toArray, List.set_cons_succ, List.set_cons_zero]
        refine wpAnyH_seg (by kernel_rfl) (fun _ _ _ h => h) [15] 3 _ _ _ hb8 (by kernel_rfl) ?_
        simp only [opsAt, List.getElem?_toArray, List.getElem?_cons_zero, List.getElem?_cons_succ, List.cons_append, List.nil_append]
        repeat (go_big_quiet_step (fail))
        refine wpQuiet_nil ?_
        refine wpAnyH_all (rs := [16]) (fuel := 2) (by kernel_rfl) (by simp) fun jj hjj => ?_
        obtain rfl : jj = 16 := by simpa using hjj
        clear hjj
        refine wpOp_value 232 rfl (by kernel_rfl) rfl (exec_buildL rfl rfl) ?_
        refine ⟨hb8.alloc _, ?_⟩
        simp only [Act.put, List.setIfInBounds_toArray, List.set_cons_succ, List.set_cons_zero]
        obtain ⟨z, hz⟩ : ∃ z : LetV, z = ⟨y.dst, a8, y.n, c8, y.bs⟩ := ⟨_, rfl⟩
        have HZE : Hid (z = ⟨y.dst, a8, y.n, c8, y.bs⟩) := hz
        clear hz
        have HPU : Hid _ := run_pushL w8 25 p (.slice (some ⟨g, 0, none⟩) n uc) us z (HX7.out.own.below HE8.out).own (by have := HUL.out.1; omega) (by have := HX7.out.net.blk.lt; have := HE8.out.size; omega)
        obtain ⟨a9, c9, w9, hr, ho9, hg9, hat9⟩ := HPU.out
        have hzc : z.cs.toArray = #[.int .i64 y.dst, .slice a8 y.n c8] := by rw [HZE.out]; rfl
        rw [hzc] at hr
        obtain ⟨hL, hC, hF⟩ := LetI.push HX7.out.own (by have := HX7.out.net.blk.lt; omega) (x := z) (by rw [HZE.out]; exact HO8.out) HE8.out ho9 hg9 hat9
        have hlen : (us ++ [z]).length = n + 1 := by rw [List.length_append, HUL.out.1]; rfl
        rw [hlen] at hr hL hF
        have HR : Hid _ := hr
        have hb9 : Blk w9 q #[.int .i64 o.k, .int .i64 o.at_, .int .i64 o.i, .slice o.bo o.bn o.bc, .int .u8 (o.bt.toNat : Int)] 30 := HB7.out.of (hC.block q HB7.out.lt (fun e => by
          have := HX7.out.own.own.2
          rcases this with ⟨e2, _⟩ | ⟨g', cap, cur, e2, _, hg', _⟩
          · rw [e2] at e; cases e
          · rw [e2] at e
            simp [Value.ownBlock] at e
            subst e
            exact absurd (HB7.out.inj hg').2 (by decide)))
        have HR9 : Hid (RunA w p (n + 1) v5 a9 c9 (ls ++ [x5]) (us ++ [z]) w9) := ⟨HX7.out.turnL hL hC (fun i hi => .inl hi) hF, by
          rw [List.map_append, List.map_append, HUL.out.2]
          unfold LetV.q
          simp only [List.map_cons, List.map_nil]
          rw [HD.out.1, HD.out.2, HZE.out], hlen, HY7.out.trans (Below.mono (Chg.below hC (by have := HX7.out.net.blk.lt; omega) (fun i hi => (HX7.out.own.own.lt i hi).1)) HWP.out)⟩
        clear hr hL hC hF ho9 hg9 hat9 HPU hzc hlen
        refine wpAnyH_all (rs := [17]) (fuel := 1) (by kernel_rfl) (by simp) fun jj hjj => ?_
        obtain rfl : jj = 17 := by simpa using hjj
        clear hjj
        refine wpOp_value 233 rfl (by kernel_rfl) rfl (exec_app rfl rfl rfl HR.out) ?_
        refine ⟨hb9, ?_⟩
        clear HR
        simp only [Act.put, List.setIfInBounds_toArray, List.set_cons_succ, List.set_cons_zero]
        refine wpAnyH_seg (by kernel_rfl) (fun _ _ _ h => h) [18] 0 _ _ _ hb9 (by kernel_rfl) ?_
        simp only [opsAt, List.getElem?_toArray, List.getElem?_cons_zero, List.getElem?_cons_succ, List.cons_append, List.nil_append]
        repeat (go_big_quiet_step (fail))
        refine wpQuiet_nil ?_
        clear nA hb8 hb9
        refine wpAnyH_done (by kernel_rfl) (NoPanic.normal ?_) 0
        clear HX7 HB7 HY7 HSB HO8 HE8 HUL HD HXY
        have HX : Hid (Calls _ _ _ _ _) := len_any p p v5 (ls ++ [x5]) w9 HR9.out.x.net
        rw [HR9.out.ln] at HX
        go_wp2_with fail
        refine HX.out.mono ?_
        rintro e wz ⟨rfl, hw⟩
        rw [hw]
        clear hw wz HX
        go_wp2_with fail
        refine ⟨⟨k + 1, n + 1, v5, _, _, _, _, ⟨rfl, rfl, rfl, rfl, rfl, rfl, by go_num⟩, by omega, by omega, by omega, HWP.out, HR9.out⟩, ?_⟩
        simp [Rmu, intOf]; omega
      · clear hjj
        refine wpOp_value 229 rfl (by kernel_rfl) rfl (exec_load1 rfl rfl Try.underlying28 rfl ((HX7.out.own.cell HXY.out).2)) ?_
        refine ⟨HB7.out, ?_⟩
        simp only [Act.put, List.setIfInBounds_toArray, List.set_cons_succ, List.set_cons_zero]
        refine wpAnyH_all (rs := [7]) (fuel := 5) (by kernel_rfl) (by simp) fun jj hjj => ?_
        obtain rfl : jj = 7 := by simpa using hjj
        clear hjj
        refine wpOp_value 223 rfl (by kernel_rfl) rfl (exec_build0 rfl) ?_
        refine ⟨Blk.alloc HB7.out _, ?_⟩
        simp only [Act.put, List.setIfInBounds_toArray, List.set_cons_succ, List.set_cons_zero]
        refine wpAnyH_all (rs := [14]) (fuel := 4) (by kernel_rfl) (by simp) fun jj hjj => ?_
        obtain rfl : jj = 14 := by simpa using hjj
        clear hjj
        obtain ⟨a8, c8, w8, hr, ho8, hg8⟩ := run_join (w7.alloc (.cells #[] 5)) 28 w7.heap.size (.slice (some ⟨w7.heap.size, 0, none⟩) 0 0) (.slice y.a y.n y.c) [] y.bs (World.ownsRow_made w7 #[] 0 (Nat.le_refl _) (Nat.zero_le _) rfl) (HSB.out.below (below_allocR _)) (by have := HYL.out; simp; omega) (by simp)
        simp only [List.nil_append] at hr ho8
        rw [← HYN.out] at hr ho8
        have HR : Hid _ := hr
        have HO8 : Hid (Own w8 w7.heap.size (.slice a8 y.n c8) y.bs) := ho8
        have HE8 : Hid (Below w7.heap.size w7 w8) := Below.grown (below_allocR _) hg8 (by simp) (fun k hk => by cases hk; exact Nat.le_refl _)
        have hb8 : Blk w8 q #[.int .i64 o.k, .int .i64 o.at_, .int .i64 o.i, .slice o.bo o.bn o.bc, .int .u8 (o.bt.toNat : Int)] 30 := HB7.out.of (HE8.out.block _ HB7.out.lt)
        clear hr ho8 hg8
        refine wpOp_value 230 rfl (by kernel_rfl) rfl (exec_app rfl rfl rfl HR.out) ?_
        refine ⟨hb8, ?_⟩
        clear HR
        simp only [Act.put, List.setIfInBounds_toArray, List.set_cons_succ, List.set_cons_zero]
        refine wpAnyH_seg (by kernel_rfl) (fun _ _ _ h => h) [15] 3 _ _ _ hb8 (by kernel_rfl) ?_
        simp only [opsAt, List.getElem?_toArray, List.getElem?_cons_zero, List.getElem?_cons_succ, List.cons_append, List.nil_append]
        repeat (go_big_quiet_step (fail))
        refine wpQuiet_nil ?_
        refine wpAnyH_all (rs := [16]) (fuel := 2) (by kernel_rfl) (by simp) fun jj hjj => ?_
        obtain rfl : jj = 16 := by simpa using hjj
        clear hjj
        refine wpOp_value 232 rfl (by kernel_rfl) rfl (exec_buildL rfl rfl) ?_
        refine ⟨hb8.alloc _, ?_⟩
        simp only [Act.put, List.setIfInBounds_toArray, List.set_cons_succ, List.set_cons_zero]
        obtain ⟨z, hz⟩ : ∃ z : LetV, z = ⟨y.dst, a8, y.n, c8, y.bs⟩ := ⟨_, rfl⟩
        have HZE : Hid (z = ⟨y.dst, a8, y.n, c8, y.bs⟩) := hz
        clear hz
        have HPU : Hid _ := run_pushL w8 25 p (.slice (some ⟨g, 0, none⟩) n uc) us z (HX7.out.own.below HE8.out).own (by have := HUL.out.1; omega) (by have := HX7.out.net.blk.lt; have := HE8.out.size; omega)
        obtain ⟨a9, c9, w9, hr, ho9, hg9, hat9⟩ := HPU.out
        have hzc : z.cs.toArray = #[.int .i64 y.dst, .slice a8 y.n c8] := by rw [HZE.out]; rfl
        rw [hzc] at hr
        obtain ⟨hL, hC, hF⟩ := LetI.push HX7.out.own (by have := HX7.out.net.blk.lt; omega) (x := z) (by rw [HZE.out]; exact HO8.out) HE8.out ho9 hg9 hat9
        have hlen : (us ++ [z]).length = n + 1 := by rw [List.length_append, HUL.out.1]; rfl
        rw [hlen] at hr hL hF
        have HR : Hid _ := hr
        have hb9 : Blk w9 q #[.int .i64 o.k, .int .i64 o.at_, .int .i64 o.i, .slice o.bo o.bn o.bc, .int .u8 (o.bt.toNat : Int)] 30 := HB7.out.of (hC.block q HB7.out.lt (fun e => by
          have := HX7.out.own.own.2
          rcases this with ⟨e2, _⟩ | ⟨g', cap, cur, e2, _, hg', _⟩
          · rw [e2] at e; cases e
          · rw [e2] at e
            simp [Value.ownBlock] at e
            subst e
            exact absurd (HB7.out.inj hg').2 (by decide)))
        have HR9 : Hid (RunA w p (n + 1) v5 a9 c9 (ls ++ [x5]) (us ++ [z]) w9) := ⟨HX7.out.turnL hL hC (fun i hi => .inl hi) hF, by
          rw [List.map_append, List.map_append, HUL.out.2]
          unfold LetV.q
          simp only [List.map_cons, List.map_nil]
          rw [HD.out.1, HD.out.2, HZE.out], hlen, HY7.out.trans (Below.mono (Chg.below hC (by have := HX7.out.net.blk.lt; omega) (fun i hi => (HX7.out.own.own.lt i hi).1)) HWP.out)⟩
        clear hr hL hC hF ho9 hg9 hat9 HPU hzc hlen
        refine wpAnyH_all (rs := [17]) (fuel := 1) (by kernel_rfl) (by simp) fun jj hjj => ?_
        obtain rfl : jj = 17 := by simpa using hjj
        clear hjj
        refine wpOp_value 233 rfl (by kernel_rfl) rfl (exec_app rfl rfl rfl HR.out) ?_
        refine ⟨hb9, ?_⟩
        clear HR
        simp only [Act.put, List.setIfInBounds_toArray, List.set_cons_succ, List.set_cons_zero]
        refine wpAnyH_seg (by kernel_rfl) (fun _ _ _ h => h) [18] 0 _ _ _ hb9 (by kernel_rfl) ?_
        simp only [opsAt, List.getElem?_toArray, List.getElem?_cons_zero, List.getElem?_cons_succ, List.cons_append, List.nil_append]
        repeat (go_big_quiet_step (fail))
        refine wpQuiet_nil ?_
        clear nA hb8 hb9
        refine wpAnyH_done (by kernel_rfl) (NoPanic.normal ?_) 0
        clear HX7 HB7 HY7 HSB HO8 HE8 HUL HD HXY
        have HX : Hid (Calls _ _ _ _ _) := len_any p p v5 (ls ++ [x5]) w9 HR9.out.x.net
        rw [HR9.out.ln] at HX
        go_wp2_with fail
        refine HX.out.mono ?_
        rintro e wz ⟨rfl, hw⟩
        rw [hw]
        clear hw wz HX
        go_wp2_with fail
        refine ⟨⟨k + 1, n + 1, v5, _, _, _, _, ⟨rfl, rfl, rfl, rfl, rfl, rfl, by go_num⟩, by omega, by omega, by omega, HWP.out, HR9.out⟩, ?_⟩
        simp [Rmu, intOf]; omega
    · clear hjj
      refine wpOp_value 223 rfl (by kernel_rfl) rfl (exec_build0 rfl) ?_
      refine ⟨Blk.alloc HB7.out _, ?_⟩
      simp only [Act.put, List.setIfInBounds_toArray, List.set_cons_succ, List.set_cons_zero]
      refine wpAnyH_all (rs := [6, 13]) (fuel := 6) (by kernel_rfl) (by simp) fun jj hjj => ?_
      rcases (show jj = 6 ∨ jj = 13 by simpa using hjj) with rfl | rfl
      · clear hjj
        refine wpOp_value 222 rfl (by kernel_rfl) rfl (exec_load1 rfl rfl Try.underlying3 rfl (((HX7.out.own.below (below_allocR _)).cell HXY.out).1)) ?_
        refine ⟨Blk.alloc HB7.out _, ?_⟩
        simp only [Act.put, List.setIfInBounds_toArray, List.set_cons_succ, List.set_cons_zero]
        refine wpAnyH_all (rs := [13]) (fuel := 5) (by kernel_rfl) (by simp) fun jj hjj => ?_
        obtain rfl : jj = 13 := by simpa using hjj
        clear hjj
        refine wpOp_value 229 rfl (by kernel_rfl) rfl (exec_load1 rfl rfl Try.underlying28 rfl (((HX7.out.own.below (below_allocR _)).cell HXY.out).2)) ?_
        refine ⟨Blk.alloc HB7.out _, ?_⟩
        simp only [Act.put, List.setIfInBounds_toArray, List.set_cons_succ, List.set_cons_zero]
        refine wpAnyH_all (rs := [14]) (fuel := 4) (by kernel_rfl) (by simp) fun jj hjj => ?_
        obtain rfl : jj = 14 := by simpa using hjj
        clear hjj
        obtain ⟨a8, c8, w8, hr, ho8, hg8⟩ := run_join (w7.alloc (.cells #[] 5)) 28 w7.heap.size (.slice (some ⟨w7.heap.size, 0, none⟩) 0 0) (.slice y.a y.n y.c) [] y.bs (World.ownsRow_made w7 #[] 0 (Nat.le_refl _) (Nat.zero_le _) rfl) (HSB.out.below (below_allocR _)) (by have := HYL.out; simp; omega) (by simp)
        simp only [List.nil_append] at hr ho8
        rw [← HYN.out] at hr ho8
        have HR : Hid _ := hr
        have HO8 : Hid (Own w8 w7.heap.size (.slice a8 y.n c8) y.bs) := ho8
        have HE8 : Hid (Below w7.heap.size w7 w8) := Below.grown (below_allocR _) hg8 (by simp) (fun k hk => by cases hk; exact Nat.le_refl _)
        have hb8 : Blk w8 q #[.int .i64 o.k, .int .i64 o.at_, .int .i64 o.i, .slice o.bo o.bn o.bc, .int .u8 (o.bt.toNat : Int)] 30 := HB7.out.of (HE8.out.block _ HB7.out.lt)
        clear hr ho8 hg8
        refine wpOp_value 230 rfl (by kernel_rfl) rfl (exec_app rfl rfl rfl HR.out) ?_
        refine ⟨hb8, ?_⟩
        clear HR
        simp only [Act.put, List.setIfInBounds_toArray, List.set_cons_succ, List.set_cons_zero]
        refine wpAnyH_seg (by kernel_rfl) (fun _ _ _ h => h) [15] 3 _ _ _ hb8 (by kernel_rfl) ?_
        simp only [opsAt, List.getElem?_toArray, List.getElem?_cons_zero, List.getElem?_cons_succ, List.cons_append, List.nil_append]
        repeat (go_big_quiet_step (fail))
        refine wpQuiet_nil ?_
        refine wpAnyH_all (rs := [16]) (fuel := 2) (by kernel_rfl) (by simp) fun jj hjj => ?_
        obtain rfl : jj = 16 := by simpa using hjj
        clear hjj
        refine wpOp_value 232 rfl (by kernel_rfl) rfl (exec_buildL rfl rfl) ?_
        refine ⟨hb8.alloc _, ?_⟩
        simp only [Act.put, List.setIfInBounds_toArray, List.set_cons_succ, List.set_cons_zero]
        obtain ⟨z, hz⟩ : ∃ z : LetV, z = ⟨y.dst, a8, y.n, c8, y.bs⟩ := ⟨_, rfl⟩
        have HZE : Hid (z = ⟨y.dst, a8, y.n, c8, y.bs⟩) := hz
        clear hz
        have HPU : Hid _ := run_pushL w8 25 p (.slice (some ⟨g, 0, none⟩) n uc) us z (HX7.out.own.below HE8.out).own (by have := HUL.out.1; omega) (by have := HX7.out.net.blk.lt; have := HE8.out.size; omega)
        obtain ⟨a9, c9, w9, hr, ho9, hg9, hat9⟩ := HPU.out
        have hzc : z.cs.toArray = #[.int .i64 y.dst, .slice a8 y.n c8] := by rw [HZE.out]; rfl
        rw [hzc] at hr
        obtain ⟨hL, hC, hF⟩ := LetI.push HX7.out.own (by have := HX7.out.net.blk.lt; omega) (x := z) (by rw [HZE.out]; exact HO8.out) HE8.out ho9 hg9 hat9
        have hlen : (us ++ [z]).length = n + 1 := by rw [List.length_append, HUL.out.1]; rfl
        rw [hlen] at hr hL hF
        have HR : Hid _ := hr
        have hb9 : Blk w9 q #[.int .i64 o.k, .int .i64 o.at_, .int .i64 o.i, .slice o.bo o.bn o.bc, .int .u8 (o.bt.toNat : Int)] 30 := HB7.out.of (hC.block q HB7.out.lt (fun e => by
          have := HX7.out.own.own.2
          rcases this with ⟨e2, _⟩ | ⟨g', cap, cur, e2, _, hg', _⟩
          · rw [e2] at e; cases e
          · rw [e2] at e
            simp [Value.ownBlock] at e
            subst e
            exact absurd (HB7.out.inj hg').2 (by decide)))
        have HR9 : Hid (RunA w p (n + 1) v5 a9 c9 (ls ++ [x5]) (us ++ [z]) w9) := ⟨HX7.out.turnL hL hC (fun i hi => .inl hi) hF, by
          rw [List.map_append, List.map_append, HUL.out.2]
          unfold LetV.q
          simp only [List.map_cons, List.map_nil]
          rw [HD.out.1, HD.out.2, HZE.out], hlen, HY7.out.trans (Below.mono (Chg.below hC (by have := HX7.out.net.blk.lt; omega) (fun i hi => (HX7.out.own.own.lt i hi).1)) HWP.out)⟩
        clear hr hL hC hF ho9 hg9 hat9 HPU hzc hlen
        refine wpAnyH_all (rs := [17]) (fuel := 1) (by kernel_rfl) (by simp) fun jj hjj => ?_
        obtain rfl : jj = 17 := by simpa using hjj
        clear hjj
        refine wpOp_value 233 rfl (by kernel_rfl) rfl (exec_app rfl rfl rfl HR.out) ?_
        refine ⟨hb9, ?_⟩
        clear HR
        simp only [Act.put, List.setIfInBounds_toArray, List.set_cons_succ, List.set_cons_zero]
        refine wpAnyH_seg (by kernel_rfl) (fun _ _ _ h => h) [18] 0 _ _ _ hb9 (by kernel_rfl) ?_
        simp only [opsAt, List.getElem?_toArray, List.getElem?_cons_zero, List.getElem?_cons_succ, List.cons_append, List.nil_append]
        repeat (go_big_quiet_step (fail))
        refine wpQuiet_nil ?_
        clear nA hb8 hb9
        refine wpAnyH_done (by kernel_rfl) (NoPanic.normal ?_) 0
        clear HX7 HB7 HY7 HSB HO8 HE8 HUL HD HXY
        have HX : Hid (Calls _ _ _ _ _) := len_any p p v5 (ls ++ [x5]) w9 HR9.out.x.net
        rw [HR9.out.ln] at HX
        go_wp2_with fail
        refine HX.out.mono ?_
        rintro e wz ⟨rfl, hw⟩
        rw [hw]
        clear hw wz HX
        go_wp2_with fail
        refine ⟨⟨k + 1, n + 1, v5, _, _, _, _, ⟨rfl, rfl, rfl, rfl, rfl, rfl, by go_num⟩, by omega, by omega, by omega, HWP.out, HR9.out⟩, ?_⟩
        simp [Rmu, intOf]; omega
      · clear hjj
        refine wpOp_value 229 rfl (by kernel_rfl) rfl (exec_load1 rfl rfl Try.underlying28 rfl (((HX7.out.own.below (below_allocR _)).cell HXY.out).2)) ?_
        refine ⟨Blk.alloc HB7.out _, ?_⟩
        simp only [Act.put, List.setIfInBounds_toArray, List.set_cons_succ, List.set_cons_zero]
        refine wpAnyH_all (rs := [6, 14]) (fuel := 5) (by kernel_rfl) (by simp) fun jj hjj => ?_
        rcases (show jj = 6 ∨ jj = 14 by simpa using hjj) with rfl | rfl
        · clear hjj
          refine wpOp_value 222 rfl (by kernel_rfl) rfl (exec_load1 rfl rfl Try.underlying3 rfl (((HX7.out.own.below (below_allocR _)).cell HXY.out).1)) ?_
          refine ⟨Blk.alloc HB7.out _, ?_⟩
          simp only [Act.put, List.setIfInBounds_toArray, List.set_cons_succ, List.set_cons_zero]
          refine wpAnyH_all (rs := [14]) (fuel := 4) (by kernel_rfl) (by simp) fun jj hjj => ?_
          obtain rfl : jj = 14 := by simpa using hjj
          clear hjj
          obtain ⟨a8, c8, w8, hr, ho8, hg8⟩ := run_join (w7.alloc (.cells #[] 5)) 28 w7.heap.size (.slice (some ⟨w7.heap.size, 0, none⟩) 0 0) (.slice y.a y.n y.c) [] y.bs (World.ownsRow_made w7 #[] 0 (Nat.le_refl _) (Nat.zero_le _) rfl) (HSB.out.below (below_allocR _)) (by have := HYL.out; simp; omega) (by simp)
          simp only [List.nil_append] at hr ho8
          rw [← HYN.out] at hr ho8
          have HR : Hid _ := hr
          have HO8 : Hid (Own w8 w7.heap.size (.slice a8 y.n c8) y.bs) := ho8
          have HE8 : Hid (Below w7.heap.size w7 w8) := Below.grown (below_allocR _) hg8 (by simp) (fun k hk => by cases hk; exact Nat.le_refl _)
          have hb8 : Blk w8 q #[.int .i64 o.k, .int .i64 o.at_, .int .i64 o.i, .slice o.bo o.bn o.bc, .int .u8 (o.bt.toNat : Int)] 30 := HB7.out.of (HE8.out.block _ HB7.out.lt)
          clear hr ho8 hg8
          refine wpOp_value 230 rfl (by kernel_rfl) rfl (exec_app rfl rfl rfl HR.out) ?_
          refine ⟨hb8, ?_⟩
          clear HR
          simp only [Act.put, List.setIfInBounds_toArray, List.set_cons_succ, List.set_cons_zero]
          refine wpAnyH_seg (by kernel_rfl) (fun _ _ _ h => h) [15] 3 _ _ _ hb8 (by kernel_rfl) ?_
          simp only [opsAt, List.getElem?_toArray, List.getElem?_cons_zero, List.getElem?_cons_succ, List.cons_append, List.nil_append]
          repeat (go_big_quiet_step (fail))
          refine wpQuiet_nil ?_
          refine wpAnyH_all (rs := [16]) (fuel := 2) (by kernel_rfl) (by simp) fun jj hjj => ?_
          obtain rfl : jj = 16 := by simpa using hjj
          clear hjj
          refine wpOp_value 232 rfl (by kernel_rfl) rfl (exec_buildL rfl rfl) ?_
          refine ⟨hb8.alloc _, ?_⟩
          simp only [Act.put, List.setIfInBounds_toArray, List.set_cons_succ, List.set_cons_zero]
          obtain ⟨z, hz⟩ : ∃ z : LetV, z = ⟨y.dst, a8, y.n, c8, y.bs⟩ := ⟨_, rfl⟩
          have HZE : Hid (z = ⟨y.dst, a8, y.n, c8, y.bs⟩) := hz
          clear hz
          have HPU : Hid _ := run_pushL w8 25 p (.slice (some ⟨g, 0, none⟩) n uc) us z (HX7.out.own.below HE8.out).own (by have := HUL.out.1; omega) (by have := HX7.out.net.blk.lt; have := HE8.out.size; omega)
          obtain ⟨a9, c9, w9, hr, ho9, hg9, hat9⟩ := HPU.out
          have hzc : z.cs.toArray = #[.int .i64 y.dst, .slice a8 y.n c8] := by rw [HZE.out]; rfl
          rw [hzc] at hr
          obtain ⟨hL, hC, hF⟩ := LetI.push HX7.out.own (by have := HX7.out.net.blk.lt; omega) (x := z) (by rw [HZE.out]; exact HO8.out) HE8.out ho9 hg9 hat9
          have hlen : (us ++ [z]).length = n + 1 := by rw [List.length_append, HUL.out.1]; rfl
          rw [hlen] at hr hL hF
          have HR : Hid _ := hr
          have hb9 : Blk w9 q #[.int .i64 o.k, .int .i64 o.at_, .int .i64 o.i, .slice o.bo o.bn o.bc, .int .u8 (o.bt.toNat : Int)] 30 := HB7.out.of (hC.block q HB7.out.lt (fun e => by
            have := HX7.out.own.own.2
            rcases this with ⟨e2, _⟩ | ⟨g', cap, cur, e2, _, hg', _⟩
            · rw [e2] at e; cases e
            · rw [e2] at e
              simp [Value.ownBlock] at e
              subst e
              exact absurd (HB7.out.inj hg').2 (by decide)))
          have HR9 : Hid (RunA w p (n + 1) v5 a9 c9 (ls ++ [x5]) (us ++ [z]) w9) := ⟨HX7.out.turnL hL hC (fun i hi => .inl hi) hF, by
            rw [List.map_append, List.map_append, HUL.out.2]
            unfold LetV.q
            simp only [List.map_cons, List.map_nil]
            rw [HD.out.1, HD.out.2, HZE.out], hlen, HY7.out.trans (Below.mono (Chg.below hC (by have := HX7.out.net.blk.lt; omega) (fun i hi => (HX7.out.own.own.lt i hi).1)) HWP.out)⟩
          clear hr hL hC hF ho9 hg9 hat9 HPU hzc hlen
          refine wpAnyH_all (rs := [17]) (fuel := 1) (by kernel_rfl) (by simp) fun jj hjj => ?_
          obtain rfl : jj = 17 := by simpa using hjj
          clear hjj
          refine wpOp_value 233 rfl (by kernel_rfl) rfl (exec_app rfl rfl rfl HR.out) ?_
          refine ⟨hb9, ?_⟩
          clear HR
          simp only [Act.put, List.setIfInBounds_toArray, List.set_cons_succ, List.set_cons_zero]
          refine wpAnyH_seg (by kernel_rfl) (fun _ _ _ h => h) [18] 0 _ _ _ hb9 (by kernel_rfl) ?_
          simp only [opsAt, List.getElem?_toArray, List.getElem?_cons_zero, List.getElem?_cons_succ, List.cons_append, List.nil_append]
          repeat (go_big_quiet_step (fail))
          refine wpQuiet_nil ?_
          clear nA hb8 hb9
          refine wpAnyH_done (by kernel_rfl) (NoPanic.normal ?_) 0
          clear HX7 HB7 HY7 HSB HO8 HE8 HUL HD HXY
          have HX : Hid (Calls _ _ _ _ _) := len_any p p v5 (ls ++ [x5]) w9 HR9.out.x.net
          rw [HR9.out.ln] at HX
          go_wp2_with fail
          refine HX.out.mono ?_
          rintro e wz ⟨rfl, hw⟩
          rw [hw]
          clear hw wz HX
          go_wp2_with fail
          refine ⟨⟨k + 1, n + 1, v5, _, _, _, _, ⟨rfl, rfl, rfl, rfl, rfl, rfl, by go_num⟩, by omega, by omega, by omega, HWP.out, HR9.out⟩, ?_⟩
          simp [Rmu, intOf]; omega
        · clear hjj
          obtain ⟨a8, c8, w8, hr, ho8, hg8⟩ := run_join (w7.alloc (.cells #[] 5)) 28 w7.heap.size (.slice (some ⟨w7.heap.size, 0, none⟩) 0 0) (.slice y.a y.n y.c) [] y.bs (World.ownsRow_made w7 #[] 0 (Nat.le_refl _) (Nat.zero_le _) rfl) (HSB.out.below (below_allocR _)) (by have := HYL.out; simp; omega) (by simp)
          simp only [List.nil_append] at hr ho8
          rw [← HYN.out] at hr ho8
          have HR : Hid _ := hr
          have HO8 : Hid (Own w8 w7.heap.size (.slice a8 y.n c8) y.bs) := ho8
          have HE8 : Hid (Below w7.heap.size w7 w8) := Below.grown (below_allocR _) hg8 (by simp) (fun k hk => by cases hk; exact Nat.le_refl _)
          have hb8 : Blk w8 q #[.int .i64 o.k, .int .i64 o.at_, .int .i64 o.i, .slice o.bo o.bn o.bc, .int .u8 (o.bt.toNat : Int)] 30 := HB7.out.of (HE8.out.block _ HB7.out.lt)
          clear hr ho8 hg8
          refine wpOp_value 230 rfl (by kernel_rfl) rfl (exec_app rfl rfl rfl HR.out) ?_
          refine ⟨hb8, ?_⟩
          clear HR
          simp only [Act.put, List.setIfInBounds_toArray, List.set_cons_succ, List.set_cons_zero]
          refine wpAnyH_all (rs := [6]) (fuel := 4) (by kernel_rfl) (by simp) fun jj hjj => ?_
          obtain rfl : jj = 6 := by simpa using hjj
          clear hjj
          refine wpOp_value 222 rfl (by kernel_rfl) rfl (exec_load1 rfl rfl Try.underlying3 rfl (((HX7.out.own.below HE8.out).cell HXY.out).1)) ?_
          refine ⟨hb8, ?_⟩
          simp only [Act.put, List.setIfInBounds_toArray, List.set_cons_succ, List.set_cons_zero]
          refine wpAnyH_seg (by kernel_rfl) (fun _ _ _ h => h) [15] 3 _ _ _ hb8 (by kernel_rfl) ?_
          simp only [opsAt, List.getElem?_toArray, List.getElem?_cons_zero, List.getElem?_cons_succ, List.cons_append, List.nil_append]
          repeat (go_big_quiet_step (fail))
          refine wpQuiet_nil ?_
          refine wpAnyH_all (rs := [16]) (fuel := 2) (by kernel_rfl) (by simp) fun jj hjj => ?_
          obtain rfl : jj = 16 := by simpa using hjj
          clear hjj
          refine wpOp_value 232 rfl (by kernel_rfl) rfl (exec_buildL rfl rfl) ?_
          refine ⟨hb8.alloc _, ?_⟩
          simp only [Act.put, List.setIfInBounds_toArray, List.set_cons_succ, List.set_cons_zero]
          obtain ⟨z, hz⟩ : ∃ z : LetV, z = ⟨y.dst, a8, y.n, c8, y.bs⟩ := ⟨_, rfl⟩
          have HZE : Hid (z = ⟨y.dst, a8, y.n, c8, y.bs⟩) := hz
          clear hz
          have HPU : Hid _ := run_pushL w8 25 p (.slice (some ⟨g, 0, none⟩) n uc) us z (HX7.out.own.below HE8.out).own (by have := HUL.out.1; omega) (by have := HX7.out.net.blk.lt; have := HE8.out.size; omega)
          obtain ⟨a9, c9, w9, hr, ho9, hg9, hat9⟩ := HPU.out
          have hzc : z.cs.toArray = #[.int .i64 y.dst, .slice a8 y.n c8] := by rw [HZE.out]; rfl
          rw [hzc] at hr
          obtain ⟨hL, hC, hF⟩ := LetI.push HX7.out.own (by have := HX7.out.net.blk.lt; omega) (x := z) (by rw [HZE.out]; exact HO8.out) HE8.out ho9 hg9 hat9
          have hlen : (us ++ [z]).length = n + 1 := by rw [List.length_append, HUL.out.1]; rfl
          rw [hlen] at hr hL hF
          have HR : Hid _ := hr
          have hb9 : Blk w9 q #[.int .i64 o.k, .int .i64 o.at_, .int .i64 o.i, .slice o.bo o.bn o.bc, .int .u8 (o.bt.toNat : Int)] 30 := HB7.out.of (hC.block q HB7.out.lt (fun e => by
            have := HX7.out.own.own.2
            rcases this with ⟨e2, _⟩ | ⟨g', cap, cur, e2, _, hg', _⟩
            · rw [e2] at e; cases e
            · rw [e2] at e
              simp [Value.ownBlock] at e
              subst e
              exact absurd (HB7.out.inj hg').2 (by decide)))
          have HR9 : Hid (RunA w p (n + 1) v5 a9 c9 (ls ++ [x5]) (us ++ [z]) w9) := ⟨HX7.out.turnL hL hC (fun i hi => .inl hi) hF, by
            rw [List.map_append, List.map_append, HUL.out.2]
            unfold LetV.q
            simp only [List.map_cons, List.map_nil]
            rw [HD.out.1, HD.out.2, HZE.out], hlen, HY7.out.trans (Below.mono (Chg.below hC (by have := HX7.out.net.blk.lt; omega) (fun i hi => (HX7.out.own.own.lt i hi).1)) HWP.out)⟩
          clear hr hL hC hF ho9 hg9 hat9 HPU hzc hlen
          refine wpAnyH_all (rs := [17]) (fuel := 1) (by kernel_rfl) (by simp) fun jj hjj => ?_
          obtain rfl : jj = 17 := by simpa using hjj
          clear hjj
          refine wpOp_value 233 rfl (by kernel_rfl) rfl (exec_app rfl rfl rfl HR.out) ?_
          refine ⟨hb9, ?_⟩
          clear HR
          simp only [Act.put, List.setIfInBounds_toArray, List.set_cons_succ, List.set_cons_zero]
          refine wpAnyH_seg (by kernel_rfl) (fun _ _ _ h => h) [18] 0 _ _ _ hb9 (by kernel_rfl) ?_
          simp only [opsAt, List.getElem?_toArray, List.getElem?_cons_zero, List.getElem?_cons_succ, List.cons_append, List.nil_append]
          repeat (go_big_quiet_step (fail))
          refine wpQuiet_nil ?_
          clear nA hb8 hb9
          refine wpAnyH_done (by kernel_rfl) (NoPanic.normal ?_) 0
          clear HX7 HB7 HY7 HSB HO8 HE8 HUL HD HXY
          have HX : Hid (Calls _ _ _ _ _) := len_any p p v5 (ls ++ [x5]) w9 HR9.out.x.net
          rw [HR9.out.ln] at HX
          go_wp2_with fail
          refine HX.out.mono ?_
          rintro e wz ⟨rfl, hw⟩
          rw [hw]
          clear hw wz HX
          go_wp2_with fail
          refine ⟨⟨k + 1, n + 1, v5, _, _, _, _, ⟨rfl, rfl, rfl, rfl, rfl, rfl, by go_num⟩, by omega, by omega, by omega, HWP.out, HR9.out⟩, ?_⟩
          simp [Rmu, intOf]; omega
    · clear hjj
      refine wpOp_value 229 rfl (by kernel_rfl) rfl (exec_load1 rfl rfl Try.underlying28 rfl ((HX7.out.own.cell HXY.out).2)) ?_
      refine ⟨HB7.out, ?_⟩
      simp only [Act.put, List.setIfInBounds_toArray, List.set_cons_succ, List.set_cons_zero]
      refine wpAnyH_all (rs := [6, 7]) (fuel := 6) (by kernel_rfl) (by simp) fun jj hjj => ?_
      rcases (show jj = 6 ∨ jj = 7 by simpa using hjj) with rfl | rfl
      · clear hjj
        refine wpOp_value 222 rfl (by kernel_rfl) rfl (exec_load1 rfl rfl Try.underlying3 rfl ((HX7.out.own.cell HXY.out).1)) ?_
        refine ⟨HB7.out, ?_⟩
        simp only [Act.put, List.setIfInBounds_toArray, List.set_cons_succ, List.set_cons_zero]
        refine wpAnyH_all (rs := [7]) (fuel := 5) (by kernel_rfl) (by simp) fun jj hjj => ?_
        obtain rfl : jj = 7 := by simpa using hjj
        clear hjj
        refine wpOp_value 223 rfl (by kernel_rfl) rfl (exec_build0 rfl) ?_
        refine ⟨Blk.alloc HB7.out _, ?_⟩
        simp only [Act.put, List.setIfInBounds_toArray, List.set_cons_succ, List.set_cons_zero]
        refine wpAnyH_all (rs := [14]) (fuel := 4) (by kernel_rfl) (by simp) fun jj hjj => ?_
        obtain rfl : jj = 14 := by simpa using hjj
        clear hjj
        obtain ⟨a8, c8, w8, hr, ho8, hg8⟩ := run_join (w7.alloc (.cells #[] 5)) 28 w7.heap.size (.slice (some ⟨w7.heap.size, 0, none⟩) 0 0) (.slice y.a y.n y.c) [] y.bs (World.ownsRow_made w7 #[] 0 (Nat.le_refl _) (Nat.zero_le _) rfl) (HSB.out.below (below_allocR _)) (by have := HYL.out; simp; omega) (by simp)
        simp only [List.nil_append] at hr ho8
        rw [← HYN.out] at hr ho8
        have HR : Hid _ := hr
        have HO8 : Hid (Own w8 w7.heap.size (.slice a8 y.n c8) y.bs) := ho8
        have HE8 : Hid (Below w7.heap.size w7 w8) := Below.grown (below_allocR _) hg8 (by simp) (fun k hk => by cases hk; exact Nat.le_refl _)
        have hb8 : Blk w8 q #[.int .i64 o.k, .int .i64 o.at_, .int .i64 o.i, .slice o.bo o.bn o.bc, .int .u8 (o.bt.toNat : Int)] 30 := HB7.out.of (HE8.out.block _ HB7.out.lt)
        clear hr ho8 hg8
        refine wpOp_value 230 rfl (by kernel_rfl) rfl (exec_app rfl rfl rfl HR.out) ?_
        refine ⟨hb8, ?_⟩
        clear HR
        simp only [Act.put, List.setIfInBounds_toArray, List.set_cons_succ, List.set_cons_zero]
        refine wpAnyH_seg (by kernel_rfl) (fun _ _ _ h => h) [15] 3 _ _ _ hb8 (by kernel_rfl) ?_
        simp only [opsAt, List.getElem?_toArray, List.getElem?_cons_zero, List.getElem?_cons_succ, List.cons_append, List.nil_append]
        repeat (go_big_quiet_step (fail))
        refine wpQuiet_nil ?_
        refine wpAnyH_all (rs := [16]) (fuel := 2) (by kernel_rfl) (by simp) fun jj hjj => ?_
        obtain rfl : jj = 16 := by simpa using hjj
        clear hjj
        refine wpOp_value 232 rfl (by kernel_rfl) rfl (exec_buildL rfl rfl) ?_
        refine ⟨hb8.alloc _, ?_⟩
        simp only [Act.put, List.setIfInBounds_toArray, List.set_cons_succ, List.set_cons_zero]
        obtain ⟨z, hz⟩ : ∃ z : LetV, z = ⟨y.dst, a8, y.n, c8, y.bs⟩ := ⟨_, rfl⟩
        have HZE : Hid (z = ⟨y.dst, a8, y.n, c8, y.bs⟩) := hz
        clear hz
        have HPU : Hid _ := run_pushL w8 25 p (.slice (some ⟨g, 0, none⟩) n uc) us z (HX7.out.own.below HE8.out).own (by have := HUL.out.1; omega) (by have := HX7.out.net.blk.lt; have := HE8.out.size; omega)
        obtain ⟨a9, c9, w9, hr, ho9, hg9, hat9⟩ := HPU.out
        have hzc : z.cs.toArray = #[.int .i64 y.dst, .slice a8 y.n c8] := by rw [HZE.out]; rfl
        rw [hzc] at hr
        obtain ⟨hL, hC, hF⟩ := LetI.push HX7.out.own (by have := HX7.out.net.blk.lt; omega) (x := z) (by rw [HZE.out]; exact HO8.out) HE8.out ho9 hg9 hat9
        have hlen : (us ++ [z]).length = n + 1 := by rw [List.length_append, HUL.out.1]; rfl
        rw [hlen] at hr hL hF
        have HR : Hid _ := hr
        have hb9 : Blk w9 q #[.int .i64 o.k, .int .i64 o.at_, .int .i64 o.i, .slice o.bo o.bn o.bc, .int .u8 (o.bt.toNat : Int)] 30 := HB7.out.of (hC.block q HB7.out.lt (fun e => by
          have := HX7.out.own.own.2
          rcases this with ⟨e2, _⟩ | ⟨g', cap, cur, e2, _, hg', _⟩
          · rw [e2] at e; cases e
          · rw [e2] at e
            simp [Value.ownBlock] at e
            subst e
            exact absurd (HB7.out.inj hg').2 (by decide)))
        have HR9 : Hid (RunA w p (n + 1) v5 a9 c9 (ls ++ [x5]) (us ++ [z]) w9) := ⟨HX7.out.turnL hL hC (fun i hi => .inl hi) hF, by
          rw [List.map_append, List.map_append, HUL.out.2]
          unfold LetV.q
          simp only [List.map_cons, List.map_nil]
          rw [HD.out.1, HD.out.2, HZE.out], hlen, HY7.out.trans (Below.mono (Chg.below hC (by have := HX7.out.net.blk.lt; omega) (fun i hi => (HX7.out.own.own.lt i hi).1)) HWP.out)⟩
        clear hr hL hC hF ho9 hg9 hat9 HPU hzc hlen
        refine wpAnyH_all (rs := [17]) (fuel := 1) (by kernel_rfl) (by simp) fun jj hjj => ?_
        obtain rfl : jj = 17 := by simpa using hjj
        clear hjj
        refine wpOp_value 233 rfl (by kernel_rfl) rfl (exec_app rfl rfl rfl HR.out) ?_
        refine ⟨hb9, ?_⟩
        clear HR
        simp only [Act.put, List.setIfInBounds_toArray, List.set_cons_succ, List.set_cons_zero]
        refine wpAnyH_seg (by kernel_rfl) (fun _ _ _ h => h) [18] 0 _ _ _ hb9 (by kernel_rfl) ?_
        simp only [opsAt, List.getElem?_toArray, List.getElem?_cons_zero, List.getElem?_cons_succ, List.cons_append, List.nil_append]
        repeat (go_big_quiet_step (fail))
        refine wpQuiet_nil ?_
        clear nA hb8 hb9
        refine wpAnyH_done (by kernel_rfl) (NoPanic.normal ?_) 0
        clear HX7 HB7 HY7 HSB HO8 HE8 HUL HD HXY
        have HX : Hid (Calls _ _ _ _ _) := len_any p p v5 (ls ++ [x5]) w9 HR9.out.x.net
        rw [HR9.out.ln] at HX
        go_wp2_with fail
        refine HX.out.mono ?_
        rintro e wz ⟨rfl, hw⟩
        rw [hw]
        clear hw wz HX
        go_wp2_with fail
        refine ⟨⟨k + 1, n + 1, v5, _, _, _, _, ⟨rfl, rfl, rfl, rfl, rfl, rfl, by go_num⟩, by omega, by omega, by omega, HWP.out, HR9.out⟩, ?_⟩
        simp [Rmu, intOf]; omega
      · clear hjj
        refine wpOp_value 223 rfl (by kernel_rfl) rfl (exec_build0 rfl) ?_
        refine ⟨Blk.alloc HB7.out _, ?_⟩
        simp only [Act.put, List.setIfInBounds_toArray, List.set_cons_succ, List.set_cons_zero]
        refine wpAnyH_all (rs := [6, 14]) (fuel := 5) (by kernel_rfl) (by simp) fun jj hjj => ?_
        rcases (show jj = 6 ∨ jj = 14 by simpa using hjj) with rfl | rfl
        · clear hjj
          refine wpOp_value 222 rfl (by kernel_rfl) rfl (exec_load1 rfl rfl Try.underlying3 rfl (((HX7.out.own.below (below_allocR _)).cell HXY.out).1)) ?_
          refine ⟨Blk.alloc HB7.out _, ?_⟩
          simp only [Act.put, List.setIfInBounds_toArray, List.set_cons_succ, List.set_cons_zero]
          refine wpAnyH_all (rs := [14]) (fuel := 4) (by kernel_rfl) (by simp) fun jj hjj => ?_
          obtain rfl : jj = 14 := by simpa using hjj
          clear hjj
          obtain ⟨a8, c8, w8, hr, ho8, hg8⟩ := run_join (w7.alloc (.cells #[] 5)) 28 w7.heap.size (.slice (some ⟨w7.heap.size, 0, none⟩) 0 0) (.slice y.a y.n y.c) [] y.bs (World.ownsRow_made w7 #[] 0 (Nat.le_refl _) (Nat.zero_le _) rfl) (HSB.out.below (below_allocR _)) (by have := HYL.out; simp; omega) (by simp)
          simp only [List.nil_append] at hr ho8
          rw [← HYN.out] at hr ho8
          have HR : Hid _ := hr
          have HO8 : Hid (Own w8 w7.heap.size (.slice a8 y.n c8) y.bs) := ho8
          have HE8 : Hid (Below w7.heap.size w7 w8) := Below.grown (below_allocR _) hg8 (by simp) (fun k hk => by cases hk; exact Nat.le_refl _)
          have hb8 : Blk w8 q #[.int .i64 o.k, .int .i64 o.at_, .int .i64 o.i, .slice o.bo o.bn o.bc, .int .u8 (o.bt.toNat : Int)] 30 := HB7.out.of (HE8.out.block _ HB7.out.lt)
          clear hr ho8 hg8
          refine wpOp_value 230 rfl (by kernel_rfl) rfl (exec_app rfl rfl rfl HR.out) ?_
          refine ⟨hb8, ?_⟩
          clear HR
          simp only [Act.put, List.setIfInBounds_toArray, List.set_cons_succ, List.set_cons_zero]
          refine wpAnyH_seg (by kernel_rfl) (fun _ _ _ h => h) [15] 3 _ _ _ hb8 (by kernel_rfl) ?_
          simp only [opsAt, List.getElem?_toArray, List.getElem?_cons_zero, List.getElem?_cons_succ, List.cons_append, List.nil_append]
          repeat (go_big_quiet_step (fail))
          refine wpQuiet_nil ?_
          refine wpAnyH_all (rs := [16]) (fuel := 2) (by kernel_rfl) (by simp) fun jj hjj => ?_
          obtain rfl : jj = 16 := by simpa using hjj
          clear hjj
          refine wpOp_value 232 rfl (by kernel_rfl) rfl (exec_buildL rfl rfl) ?_
          refine ⟨hb8.alloc _, ?_⟩
          simp only [Act.put, List.setIfInBounds_toArray, List.set_cons_succ, List.set_cons_zero]
          obtain ⟨z, hz⟩ : ∃ z : LetV, z = ⟨y.dst, a8, y.n, c8, y.bs⟩ := ⟨_, rfl⟩
          have HZE : Hid (z = ⟨y.dst, a8, y.n, c8, y.bs⟩) := hz
          clear hz
          have HPU : Hid _ := run_pushL w8 25 p (.slice (some ⟨g, 0, none⟩) n uc) us z (HX7.out.own.below HE8.out).own (by have := HUL.out.1; omega) (by have := HX7.out.net.blk.lt; have := HE8.out.size; omega)
          obtain ⟨a9, c9, w9, hr, ho9, hg9, hat9⟩ := HPU.out
          have hzc : z.cs.toArray = #[.int .i64 y.dst, .slice a8 y.n c8] := by rw [HZE.out]; rfl
          rw [hzc] at hr
          obtain ⟨hL, hC, hF⟩ := LetI.push HX7.out.own (by have := HX7.out.net.blk.lt; omega) (x := z) (by rw [HZE.out]; exact HO8.out) HE8.out ho9 hg9 hat9
          have hlen : (us ++ [z]).length = n + 1 := by rw [List.length_append, HUL.out.1]; rfl
          rw [hlen] at hr hL hF
          have HR : Hid _ := hr
          have hb9 : Blk w9 q #[.int .i64 o.k, .int .i64 o.at_, .int .i64 o.i, .slice o.bo o.bn o.bc, .int .u8 (o.bt.toNat : Int)] 30 := HB7.out.of (hC.block q HB7.out.lt (fun e => by
            have := HX7.out.own.own.2
            rcases this with ⟨e2, _⟩ | ⟨g', cap, cur, e2, _, hg', _⟩
            · rw [e2] at e; cases e
            · rw [e2] at e
              simp [Value.ownBlock] at e
              subst e
              exact absurd (HB7.out.inj hg').2 (by decide)))
          have HR9 : Hid (RunA w p (n + 1) v5 a9 c9 (ls ++ [x5]) (us ++ [z]) w9) := ⟨HX7.out.turnL hL hC (fun i hi => .inl hi) hF, by
            rw [List.map_append, List.map_append, HUL.out.2]
            unfold LetV.q
            simp only [List.map_cons, List.map_nil]
            rw [HD.out.1, HD.out.2, HZE.out], hlen, HY7.out.trans (Below.mono (Chg.below hC (by have := HX7.out.net.blk.lt; omega) (fun i hi => (HX7.out.own.own.lt i hi).1)) HWP.out)⟩
          clear hr hL hC hF ho9 hg9 hat9 HPU hzc hlen
          refine wpAnyH_all (rs := [17]) (fuel := 1) (by kernel_rfl) (by simp) fun jj hjj => ?_
          obtain rfl : jj = 17 := by simpa using hjj
          clear hjj
          refine wpOp_value 233 rfl (by kernel_rfl) rfl (exec_app rfl rfl rfl HR.out) ?_
          refine ⟨hb9, ?_⟩
          clear HR
          simp only [Act.put, List.setIfInBounds_toArray, List.set_cons_succ, List.set_cons_zero]
          refine wpAnyH_seg (by kernel_rfl) (fun _ _ _ h => h) [18] 0 _ _ _ hb9 (by kernel_rfl) ?_
          simp only [opsAt, List.getElem?_toArray, List.getElem?_cons_zero, List.getElem?_cons_succ, List.cons_append, List.nil_append]
          repeat (go_big_quiet_step (fail))
          refine wpQuiet_nil ?_
          clear nA hb8 hb9
          refine wpAnyH_done (by kernel_rfl) (NoPanic.normal ?_) 0
          clear HX7 HB7 HY7 HSB HO8 HE8 HUL HD HXY
          have HX : Hid (Calls _ _ _ _ _) := len_any p p v5 (ls ++ [x5]) w9 HR9.out.x.net
          rw [HR9.out.ln] at HX
          go_wp2_with fail
          refine HX.out.mono ?_
          rintro e wz ⟨rfl, hw⟩
          rw [hw]
          clear hw wz HX
          go_wp2_with fail
          refine ⟨⟨k + 1, n + 1, v5, _, _, _, _, ⟨rfl, rfl, rfl, rfl, rfl, rfl, by go_num⟩, by omega, by omega, by omega, HWP.out, HR9.out⟩, ?_⟩
          simp [Rmu, intOf]; omega
        · clear hjj
          obtain ⟨a8, c8, w8, hr, ho8, hg8⟩ := run_join (w7.alloc (.cells #[] 5)) 28 w7.heap.size (.slice (some ⟨w7.heap.size, 0, none⟩) 0 0) (.slice y.a y.n y.c) [] y.bs (World.ownsRow_made w7 #[] 0 (Nat.le_refl _) (Nat.zero_le _) rfl) (HSB.out.below (below_allocR _)) (by have := HYL.out; simp; omega) (by simp)
          simp only [List.nil_append] at hr ho8
          rw [← HYN.out] at hr ho8
          have HR : Hid _ := hr
          have HO8 : Hid (Own w8 w7.heap.size (.slice a8 y.n c8) y.bs) := ho8
          have HE8 : Hid (Below w7.heap.size w7 w8) := Below.grown (below_allocR _) hg8 (by simp) (fun k hk => by cases hk; exact Nat.le_refl _)
          have hb8 : Blk w8 q #[.int .i64 o.k, .int .i64 o.at_, .int .i64 o.i, .slice o.bo o.bn o.bc, .int .u8 (o.bt.toNat : Int)] 30 := HB7.out.of (HE8.out.block _ HB7.out.lt)
          clear hr ho8 hg8
          refine wpOp_value 230 rfl (by kernel_rfl) rfl (exec_app rfl rfl rfl HR.out) ?_
          refine ⟨hb8, ?_⟩
          clear HR
          simp only [Act.put, List.setIfInBounds_toArray, List.set_cons_succ, List.set_cons_zero]
          refine wpAnyH_all (rs := [6]) (fuel := 4) (by kernel_rfl) (by simp) fun jj hjj => ?_
          obtain rfl : jj = 6 := by simpa using hjj
          clear hjj
          refine wpOp_value 222 rfl (by kernel_rfl) rfl (exec_load1 rfl rfl Try.underlying3 rfl (((HX7.out.own.below HE8.out).cell HXY.out).1)) ?_
          refine ⟨hb8, ?_⟩
          simp only [Act.put, List.setIfInBounds_toArray, List.set_cons_succ, List.set_cons_zero]
          refine wpAnyH_seg (by kernel_rfl) (fun _ _ _ h => h) [15] 3 _ _ _ hb8 (by kernel_rfl) ?_
          simp only [opsAt, List.getElem?_toArray, List.getElem?_cons_zero, List.getElem?_cons_succ, List.cons_append, List.nil_append]
          repeat (go_big_quiet_step (fail))
          refine wpQuiet_nil ?_
          refine wpAnyH_all (rs := [16]) (fuel := 2) (by kernel_rfl) (by simp) fun jj hjj => ?_
          obtain rfl : jj = 16 := by simpa using hjj
          clear hjj
          refine wpOp_value 232 rfl (by kernel_rfl) rfl (exec_buildL rfl rfl) ?_
          refine ⟨hb8.alloc _, ?_⟩
          simp only [Act.put, List.setIfInBounds_toArray, List.set_cons_succ, List.set_cons_zero]
          obtain ⟨z, hz⟩ : ∃ z : LetV, z = ⟨y.dst, a8, y.n, c8, y.bs⟩ := ⟨_, rfl⟩
          have HZE : Hid (z = ⟨y.dst, a8, y.n, c8, y.bs⟩) := hz
          clear hz
          have HPU : Hid _ := run_pushL w8 25 p (.slice (some ⟨g, 0, none⟩) n uc) us z (HX7.out.own.below HE8.out).own (by have := HUL.out.1; omega) (by have := HX7.out.net.blk.lt; have := HE8.out.size; omega)
          obtain ⟨a9, c9, w9, hr, ho9, hg9, hat9⟩ := HPU.out
          have hzc : z.cs.toArray = #[.int .i64 y.dst, .slice a8 y.n c8] := by rw [HZE.out]; rfl
          rw [hzc] at hr
          obtain ⟨hL, hC, hF⟩ := LetI.push HX7.out.own (by have := HX7.out.net.blk.lt; omega) (x := z) (by rw [HZE.out]; exact HO8.out) HE8.out ho9 hg9 hat9
          have hlen : (us ++ [z]).length = n + 1 := by rw [List.length_append, HUL.out.1]; rfl
          rw [hlen] at hr hL hF
          have HR : Hid _ := hr
          have hb9 : Blk w9 q #[.int .i64 o.k, .int .i64 o.at_, .int .i64 o.i, .slice o.bo o.bn o.bc, .int .u8 (o.bt.toNat : Int)] 30 := HB7.out.of (hC.block q HB7.out.lt (fun e => by
            have := HX7.out.own.own.2
            rcases this with ⟨e2, _⟩ | ⟨g', cap, cur, e2, _, hg', _⟩
            · rw [e2] at e; cases e
            · rw [e2] at e
              simp [Value.ownBlock] at e
              subst e
              exact absurd (HB7.out.inj hg').2 (by decide)))
          have HR9 : Hid (RunA w p (n + 1) v5 a9 c9 (ls ++ [x5]) (us ++ [z]) w9) := ⟨HX7.out.turnL hL hC (fun i hi => .inl hi) hF, by
            rw [List.map_append, List.map_append, HUL.out.2]
            unfold LetV.q
            simp only [List.map_cons, List.map_nil]
            rw [HD.out.1, HD.out.2, HZE.out], hlen, HY7.out.trans (Below.mono (Chg.below hC (by have := HX7.out.net.blk.lt; omega) (fun i hi => (HX7.out.own.own.lt i hi).1)) HWP.out)⟩
          clear hr hL hC hF ho9 hg9 hat9 HPU hzc hlen
          refine wpAnyH_all (rs := [17]) (fuel := 1) (by kernel_rfl) (by simp) fun jj hjj => ?_
          obtain rfl : jj = 17 := by simpa using hjj
          clear hjj
          refine wpOp_value 233 rfl (by kernel_rfl) rfl (exec_app rfl rfl rfl HR.out) ?_
          refine ⟨hb9, ?_⟩
          clear HR
          simp only [Act.put, List.setIfInBounds_toArray, List.set_cons_succ, List.set_cons_zero]
          refine wpAnyH_seg (by kernel_rfl) (fun _ _ _ h => h) [18] 0 _ _ _ hb9 (by kernel_rfl) ?_
          simp only [opsAt, List.getElem?_toArray, List.getElem?_cons_zero, List.getElem?_cons_succ, List.cons_append, List.nil_append]
          repeat (go_big_quiet_step (fail))
          refine wpQuiet_nil ?_
          clear nA hb8 hb9
          refine wpAnyH_done (by kernel_rfl) (NoPanic.normal ?_) 0
          clear HX7 HB7 HY7 HSB HO8 HE8 HUL HD HXY
          have HX : Hid (Calls _ _ _ _ _) := len_any p p v5 (ls ++ [x5]) w9 HR9.out.x.net
          rw [HR9.out.ln] at HX
          go_wp2_with fail
          refine HX.out.mono ?_
          rintro e wz ⟨rfl, hw⟩
          rw [hw]
          clear hw wz HX
          go_wp2_with fail
          refine ⟨⟨k + 1, n + 1, v5, _, _, _, _, ⟨rfl, rfl, rfl, rfl, rfl, rfl, by go_num⟩, by omega, by omega, by omega, HWP.out, HR9.out⟩, ?_⟩
          simp [Rmu, intOf]; omega
end Go.Proofs.Ytcemecclpofhbaa

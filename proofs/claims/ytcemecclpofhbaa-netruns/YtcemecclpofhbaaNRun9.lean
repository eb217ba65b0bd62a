/- NetRuns: a round that looks. Own lemmas, no statement. -/
import Derived.Test.YtcemecclpofhbaaNRun5
set_option linter.unusedSimpArgs false
set_option linter.unusedVariables false
namespace Go.Proofs.Ytcemecclpofhbaa
open Go.ChangeShapes Go.WideShapes Go.ChangeAt Go.RowKit

theorem at_no {ls : List LetV} {a : Int} {w : World} {e : Ending} {w' : World} (h : AtP ls a w e w') (ha : a < 0 ∨ (ls.length : Int) ≤ a) : e = .returned (.tuple #[.agg #[.int .i64 0, .slice none 0 0], .bool false]) ∧ Below w.heap.size w w' := by
  obtain ⟨⟨_, h⟩ | ⟨x, i, _, _, h1, h2, _⟩, hb⟩ := h
  · exact ⟨h, hb⟩
  · have := (List.getElem?_eq_some_iff.1 h2).1
    omega
theorem take_no {B p : Nat} {v : Value} {ls : List LetV} {a : Int} {w : World} {e : Ending} {w' : World} (h : TakeP B p v ls a w e w') (ha : a < 0 ∨ (ls.length : Int) ≤ a) : e = .returned (.tuple #[.agg #[.int .i64 0, .slice none 0 0], .bool false]) ∧ Below w.heap.size w w' := by
  rcases h with ⟨_, h⟩ | ⟨x, i, _, _, h1, h2, _⟩
  · exact h
  · have := (List.getElem?_eq_some_iff.1 h2).1
    omega
set_option maxRecDepth 100000 in
set_option maxHeartbeats 32000000 in
theorem run_at (w : World) (p : Nat) (ad : Addr) (len cap k n : Nat) (hlt1 : k < len) (hlt2 : k < 60) (T : Nat → Value) (v : Value) (ua : Option Addr) (uc : Nat) (ls us : List LetV) (wr : World) (Q : Exit → Act → World → Prop) (o : OpN) (hl63 : len ≤ 9223372036854775807) (hnk : n ≤ k) (hwp : w.heap.size ≤ p) (hop : OpNAt w ad k o) (hra : RunA w p n v ua uc ls us wr) (h0 : o.k = 2) : Goal w p ad len cap k n ua uc T Q wr := by
  have HK : Hid (o.k = 2) := h0
  clear h0
  have huc := hra.uc
  have hn60 : n ≤ 60 := by omega
  have HWP : Hid (w.heap.size ≤ p) := hwp
  have HOP0 : Hid (OpNAt w ad k o) := hop
  have HOP : Hid (OpNAt wr ad k o) := hop.below hra.below
  have HRA : Hid (RunA w p n v ua uc ls us wr) := hra
  have hd1 : decide ((k : Int) < (len : Int)) = true := decide_eq_true (by omega)
  have hd2 : decide ((k : Int) < 60) = true := decide_eq_true (by omega)
  have e0 : wr.cell? (ad.add (k * 5)) = some (.int .i64 o.k) := HOP.out.c0
  have e1 : wr.cell? ⟨(ad.add (k * 5)).block, (ad.add (k * 5)).off + 1, none⟩ = some (.int .i64 o.at_) := cell_on16 (by omega) HOP.out.c1
  have e2 : wr.cell? ⟨(ad.add (k * 5)).block, (ad.add (k * 5)).off + 2, none⟩ = some (.int .i64 o.i) := cell_on16 (by omega) HOP.out.c2
  have e3 : wr.cell? ⟨(ad.add (k * 5)).block, (ad.add (k * 5)).off + 3, none⟩ = some (.slice o.bo o.bn o.bc) := cell_on16 (by omega) HOP.out.c3
  have e4 : wr.cell? ⟨(ad.add (k * 5)).block, (ad.add (k * 5)).off + 4, none⟩ = some (.int .u8 (o.bt.toNat : Int)) := cell_on16 (by omega) HOP.out.c4
  obtain ⟨w3, hw3⟩ : ∃ w3, w3 = wr.alloc (.cells #[.int .i64 o.k, .int .i64 o.at_, .int .i64 o.i, .slice o.bo o.bn o.bc, .int .u8 (o.bt.toNat : Int)] 30) := ⟨_, rfl⟩
  have HB3 : Hid (Blk w3 wr.heap.size #[.int .i64 o.k, .int .i64 o.at_, .int .i64 o.i, .slice o.bo o.bn o.bc, .int .u8 (o.bt.toNat : Int)] 30) := by rw [hw3]; exact Blk.new _ _ _
  have HE3 : Hid (Below wr.heap.size wr w3) := by rw [hw3]; exact below_allocR _
  have ho63 : o.bn ≤ 9223372036854775807 := by have := HOP.out.src.at; unfold maxLen at this; omega
  clear hop hra hwp
  unfold Goal fr
  conv => arg 2; whnf
  go_upto_region 9 with fail
  rw [← hw3]
  clear hw3 e0 e1 e2 e3 e4 hd1 hd2
  have HR3 : Hid (RunA w p n v ua uc ls us w3) := HRA.out.go HE3.out
  have HS3 : Hid (Src w3 (.slice o.bo o.bn o.bc) o.bl ∧ o.bn = o.bl.length) := ⟨HOP.out.src.below HE3.out, HOP.out.src.at.1⟩
  have HWF : Hid ((Lit.int .i64 o.at_).wf = true ∧ (Lit.int .i64 o.i).wf = true) := ⟨HOP.out.w1, HOP.out.w2⟩
  have HQP : Hid (p < wr.heap.size ∧ (∀ i, FP p v ls i → i < wr.heap.size) ∧ ∀ i, FL (.slice ua n uc) us i → i < wr.heap.size) := ⟨HRA.out.x.net.blk.lt, fun i hi => (HRA.out.x.net.fp_lt hi).2, fun i hi => (HRA.out.x.own.lt hi).2⟩
  clear HRA HOP HE3
  generalize wr.heap.size = q at *
  have c0 : w3.cell? ⟨q, 0, none⟩ = some (.int .i64 o.k) := HB3.out.cell 0
  have c1 : w3.cell? ⟨q, 1, none⟩ = some (.int .i64 o.at_) := HB3.out.cell 1
  have c2 : w3.cell? ⟨q, 2, none⟩ = some (.int .i64 o.i) := HB3.out.cell 2
  have c3 : w3.cell? ⟨q, 3, none⟩ = some (.slice o.bo o.bn o.bc) := HB3.out.cell 3
  have c4 : w3.cell? ⟨q, 4, none⟩ = some (.int .u8 (o.bt.toNat : Int)) := HB3.out.cell 4
  by_cases g3 : 300 < o.bn
  · go_wp2_with fail
    refine ⟨⟨k + 1, n, v, ua, uc, ls, us, ⟨rfl, rfl, rfl, rfl, rfl, rfl, by go_num⟩, by omega, by omega, by omega, HWP.out, HR3.out⟩, ?_⟩
    simp [Rmu, intOf]; omega
  rw [HK.out] at c0
  have HX : Hid (Calls _ _ _ _ _) := at_any p p v ls o.at_ w3 HR3.out.x.net
  rcases in3 o.at_ n with h | ⟨ha, h⟩ | ⟨ha, h⟩
  · have HOUT : Hid (o.at_ < 0 ∨ (ls.length : Int) ≤ o.at_) := by have := of_decide_eq_false h; show _ ∨ _; omega
    have HNO : Hid (∀ e w', AtP ls o.at_ w3 e w' → e = .returned (.tuple #[.agg #[.int .i64 0, .slice none 0 0], .bool false]) ∧ Below w3.heap.size w3 w') := fun e w' hs => at_no hs HOUT.out
    go_wp2_with fail
    refine HX.out.mono ?_
    rintro e w4 ht
    obtain ⟨rfl, y⟩ := HNO.out _ _ ht
    obtain ⟨w5, hw5⟩ : ∃ w5, w5 = w4.alloc (.cells #[.int .i64 0, .slice none 0 0] 34) := ⟨_, rfl⟩
    have HE5 : Hid (Below w3.heap.size w3 w5) := by rw [hw5]; exact y.alloc y.size _
    have HBX : Hid (Blk w5 w4.heap.size #[.int .i64 0, .slice none 0 0] 34) := by rw [hw5]; exact Blk.new _ _ _
    have HQ3 : Hid (q < w3.heap.size ∧ w3.heap.size ≤ w4.heap.size) := ⟨HB3.out.lt, y.size⟩
    clear y ht HX HNO
    go_upto_region 29 with fail
    rw [← hw5]
    clear hw5 c0 c1 c2 c3 c4
    have HR5 : Hid (RunA w p n v ua uc ls us w5) := HR3.out.go HE5.out
    have HB5 : Hid (Blk w5 q #[.int .i64 o.k, .int .i64 o.at_, .int .i64 o.i, .slice o.bo o.bn o.bc, .int .u8 (o.bt.toNat : Int)] 30) := HB3.out.of (HE5.out.block _ HB3.out.lt)
    generalize w4.heap.size = b at *
    have c0 : w5.cell? ⟨q, 0, none⟩ = some (.int .i64 2) := by rw [← HK.out]; exact HB5.out.cell 0
    have c1 : w5.cell? ⟨q, 1, none⟩ = some (.int .i64 o.at_) := HB5.out.cell 1
    have z0 : w5.cell? ⟨b, 0, none⟩ = some (.int .i64 0) := HBX.out.cell 0
    have z1 : w5.cell? ⟨b, 1, none⟩ = some (.slice none 0 0) := HBX.out.cell 1
    have HX : Hid (Calls _ _ _ _ _) := len_any p p v ls w5 HR5.out.x.net
    rw [HR5.out.ln] at HX
    go_wp2_with fail
    refine HX.out.mono ?_
    rintro e wz ⟨rfl, hw⟩
    rw [hw]
    clear hw wz HX
    go_wp2_with fail
    refine ⟨⟨k + 1, n, v, _, uc, ls, us, ⟨rfl, rfl, rfl, rfl, rfl, rfl, by go_num⟩, by omega, by omega, by omega, HWP.out, HR5.out⟩, ?_⟩
    simp [Rmu, intOf]; omega
  · have HOUT : Hid (o.at_ < 0 ∨ (ls.length : Int) ≤ o.at_) := by have := of_decide_eq_false h; have := HR3.out.ln; show _ ∨ _; omega
    have HNO : Hid (∀ e w', AtP ls o.at_ w3 e w' → e = .returned (.tuple #[.agg #[.int .i64 0, .slice none 0 0], .bool false]) ∧ Below w3.heap.size w3 w') := fun e w' hs => at_no hs HOUT.out
    go_wp2_with fail
    refine HX.out.mono ?_
    rintro e w4 ht
    obtain ⟨rfl, y⟩ := HNO.out _ _ ht
    obtain ⟨w5, hw5⟩ : ∃ w5, w5 = w4.alloc (.cells #[.int .i64 0, .slice none 0 0] 34) := ⟨_, rfl⟩
    have HE5 : Hid (Below w3.heap.size w3 w5) := by rw [hw5]; exact y.alloc y.size _
    have HBX : Hid (Blk w5 w4.heap.size #[.int .i64 0, .slice none 0 0] 34) := by rw [hw5]; exact Blk.new _ _ _
    have HQ3 : Hid (q < w3.heap.size ∧ w3.heap.size ≤ w4.heap.size) := ⟨HB3.out.lt, y.size⟩
    clear y ht HX HNO
    go_upto_region 29 with fail
    rw [← hw5]
    clear hw5 c0 c1 c2 c3 c4
    have HR5 : Hid (RunA w p n v ua uc ls us w5) := HR3.out.go HE5.out
    have HB5 : Hid (Blk w5 q #[.int .i64 o.k, .int .i64 o.at_, .int .i64 o.i, .slice o.bo o.bn o.bc, .int .u8 (o.bt.toNat : Int)] 30) := HB3.out.of (HE5.out.block _ HB3.out.lt)
    generalize w4.heap.size = b at *
    have c0 : w5.cell? ⟨q, 0, none⟩ = some (.int .i64 2) := by rw [← HK.out]; exact HB5.out.cell 0
    have c1 : w5.cell? ⟨q, 1, none⟩ = some (.int .i64 o.at_) := HB5.out.cell 1
    have z0 : w5.cell? ⟨b, 0, none⟩ = some (.int .i64 0) := HBX.out.cell 0
    have z1 : w5.cell? ⟨b, 1, none⟩ = some (.slice none 0 0) := HBX.out.cell 1
    have HX : Hid (Calls _ _ _ _ _) := len_any p p v ls w5 HR5.out.x.net
    rw [HR5.out.ln] at HX
    go_wp2_with fail
    refine HX.out.mono ?_
    rintro e wz ⟨rfl, hw⟩
    rw [hw]
    clear hw wz HX
    go_wp2_with fail
    refine ⟨⟨k + 1, n, v, _, uc, ls, us, ⟨rfl, rfl, rfl, rfl, rfl, rfl, by go_num⟩, by omega, by omega, by omega, HWP.out, HR5.out⟩, ?_⟩
    simp [Rmu, intOf]; omega
  · have h5 := of_decide_eq_true h
    have h6 := of_decide_eq_true ha
    obtain ⟨j, hj⟩ : ∃ j : Nat, o.at_ = (j : Int) := ⟨o.at_.toNat, by omega⟩
    rw [hj] at h h5 h6 ha HX c1
    have HJ : Hid (o.at_ = (j : Int)) := hj
    have hjn : j < n := by omega
    obtain ⟨g, x, y, hua, hx, hy, hd, hb⟩ := HR3.out.own_at hjn
    subst hua
    have HXX : Hid (ls[j]? = some x ∧ x.dst = y.dst ∧ x.bs = y.bs) := ⟨hx, hd, hb⟩
    have HXY : Hid (us[j]? = some y) := hy
    have hyn : y.n = y.bs.length := (HR3.out.x.own.el y (List.mem_of_getElem? hy)).src.at.1
    have HYN : Hid (y.n = y.bs.length) := hyn
    have HYL : Hid (y.bs.length ≤ 200) := by
      have := (HR3.out.x.net.el x (List.mem_of_getElem? hx)).2.1
      rw [hb] at this
      exact this
    have hy63 : y.n ≤ 200 := by have := HYL.out; omega
    clear hx hy hd hb hyn hj
    have hjl : (j : Int) < (n : Int) := by omega
    clear h5 h6
    go_wp2_with fail
    refine HX.out.mono ?_
    rintro e w4 ht
    obtain ⟨a4, k4, rfl, hO, hb⟩ := at_ok (i := j) ht HXX.out.1
    rw [HXX.out.2.1, HXX.out.2.2, ← HYN.out]
    rw [HXX.out.2.2, ← HYN.out] at hO
    obtain ⟨w5, hw5⟩ : ∃ w5, w5 = w4.alloc (.cells #[.int .i64 y.dst, .slice a4 y.n k4] 34) := ⟨_, rfl⟩
    have HE5 : Hid (Below w3.heap.size w3 w5) := by rw [hw5]; exact hb.alloc hb.size _
    have HB0 : Hid (Blk w5 w4.heap.size #[.int .i64 y.dst, .slice a4 y.n k4] 34) := by rw [hw5]; exact Blk.new _ _ _
    have HM0 : Hid (Own w5 w3.heap.size (.slice a4 y.n k4) y.bs) := by rw [hw5]; exact hO.alloc _
    have HMF : Hid (∀ i, (Value.slice a4 y.n k4).ownBlock = some i → w3.heap.size ≤ i ∧ i < w4.heap.size) := fun i hi => World.ownsRow.lt hO i hi
    have HQ3 : Hid (q < w3.heap.size) := HB3.out.lt
    clear hO hb ht HX
    go_upto_region 29 with fail
    rw [← hw5]
    clear hw5 c0 c1 c2 c3 c4
    have HR5 : Hid (RunA w p n v (some ⟨g, 0, none⟩) uc ls us w5) := HR3.out.go HE5.out
    have HBQ : Hid (Blk w5 q #[.int .i64 o.k, .int .i64 o.at_, .int .i64 o.i, .slice o.bo o.bn o.bc, .int .u8 (o.bt.toNat : Int)] 30) := HB3.out.of (HE5.out.block _ HB3.out.lt)
    generalize w4.heap.size = b at *
    have HL5 : Hid (LetI w5 p (.slice (some ⟨g, 0, none⟩) n uc) us) := HR5.out.x.own
    have c0 : w5.cell? ⟨q, 0, none⟩ = some (.int .i64 2) := by rw [← HK.out]; exact HBQ.out.cell 0
    have c1 : w5.cell? ⟨q, 1, none⟩ = some (.int .i64 (j : Int)) := by rw [← HJ.out]; exact HBQ.out.cell 1
    have z0 : w5.cell? ⟨b, 0, none⟩ = some (.int .i64 y.dst) := HB0.out.cell 0
    have z1 : w5.cell? ⟨b, 1, none⟩ = some (.slice a4 y.n k4) := HB0.out.cell 1
    go_upto_region 34 with fail
    clear z0 z1 c0 c1
    refine wp_region_ext (by kernel_rfl) ?_
    haveI nA := cls_ext w5.drew
    have z0 := cellX (W0 := w5.drew) (show w5.drew.cell? ⟨b, 0, none⟩ = some _ from HB0.out.cell 0)
    have z1 := cellX (W0 := w5.drew) (show w5.drew.cell? ⟨b, 1, none⟩ = some _ from HB0.out.cell 1)
    have x1 := cellX (W0 := w5.drew) (show w5.drew.cell? ⟨q, 1, none⟩ = some (.int .i64 (j : Int)) by rw [← HJ.out]; exact HBQ.out.cell 1)
    have r0 := cellX (W0 := w5.drew) (show w5.drew.cell? ⟨g, j * 2, none⟩ = some _ from (HL5.out.cell HXY.out).1)
    have r1 := cellX (W0 := w5.drew) (show w5.drew.cell? ⟨g, j * 2 + 1, none⟩ = some _ from (HL5.out.cell HXY.out).2)
    have u1 := Src.strE (W0 := w5.drew) (HM0.out.src.below (Below.drew (Below.refl _ _)))
    have u2 := Src.strE (W0 := w5.drew) ((HL5.out.el y (List.mem_of_getElem? HXY.out)).src.below (Below.drew (Below.refl _ _)))
    unfold LetV.v at u2
    refine wpAnyH_seg (by kernel_rfl) (fun _ _ _ h => h) [0, 1, 2, 3, 4, 5, 6, 7, 8, 9, 10, 11, 12, 13, 14, 15, 16, 17, 18, 19, 20, 21] 0 _ _ _ (Ext.refl _) (by kernel_rfl) ?_
    simp only [opsAt, List.getElem?_toArray, List.getElem?_cons_zero, List.getElem?_cons_succ, List.cons_append, List.nil_append]
    repeat (go_big_quiet_step (fail))
    refine wpQuiet_nil ?_
    clear nA z0 z1 x1 r0 r1 u1 u2
    refine wpAnyH_done (by kernel_rfl) (NoPanic.normal ?_) 0
    have HM : Hid (Own w5.drew w3.heap.size (.slice a4 y.n k4) y.bs) := HM0.out.below (Below.drew (Below.refl _ _))
    have HR6 : Hid (RunA w p n v (some ⟨g, 0, none⟩) uc ls us w5.drew) := HR5.out.go (Below.drew (Below.refl _ _))
    have HBQ6 : Hid (Blk w5.drew q #[.int .i64 o.k, .int .i64 o.at_, .int .i64 o.i, .slice o.bo o.bn o.bc, .int .u8 (o.bt.toNat : Int)] 30) := HBQ.out
    have HBX : Hid (∀ W, Chg (fun i => (Value.slice a4 y.n k4).ownBlock = some i) w5.drew W → Blk W b #[.int .i64 y.dst, .slice a4 y.n k4] 34) := fun W hW => Blk.chg HB0.out.drew hW (fun e => by have := (HMF.out b e).2; omega)
    have z1 : w5.drew.cell? ⟨b, 1, none⟩ = some (.slice a4 y.n k4) := HB0.out.cell 1
    clear HB0 HM0 HR5 HBQ HE5 HL5 HR3 HB3 HS3
    generalize w5.drew = w6 at *
    go_wp2_with fail
    go_loopw [171] (fun i wr => ∃ (m : Nat) (l' : List UInt8), i = .int .i64 m ∧ m ≤ y.n ∧ l'.length = y.n ∧ Own wr w3.heap.size (.slice a4 y.n k4) l' ∧ Chg (fun i => (Value.slice a4 y.n k4).ownBlock = some i) w6 wr) (fun i _ => y.n - (intOf i).toNat)
    case atStart => exact ⟨0, y.bs, rfl, Nat.zero_le _, HYN.out.symm, HM.out, Chg.refl _ _⟩
    case round =>
      obtain ⟨m, l', rfl, hjl, hll, hown, hchg⟩ := hrel
      by_cases hlt : m < y.n
      · obtain ⟨g4, cap4, cur4, hv4, hbk4, hic4, hc41, hc42, ⟨ob, hob, kb⟩, hset⟩ := own_set2 hown (i := m) (by omega)
        have hsl : Chg (fun i => (Value.slice a4 y.n k4).ownBlock = some i) w6 (wr.setCell ⟨g4, m, none⟩ (.int .u8 ((ob ^^^ 255).toNat : Int))) := hchg.setCell ⟨g4, m, none⟩ (fun _ => by rw [hv4]; rfl) _
        have HSL : Hid (Chg _ w6 _) := hsl
        have HSET : Hid (Own (wr.setCell ⟨g4, m, none⟩ (.int .u8 ((ob ^^^ 255).toNat : Int))) w3.heap.size (.slice a4 y.n k4) (l'.set m (ob ^^^ 255))) := hset _
        have HLL : Hid (l'.length = y.n) := hll
        have hfz := hbk4.frozen m
        have z1 : wr.cell? ⟨b, 1, none⟩ = some (.slice a4 y.n k4) := (HBX.out wr hchg).cell 1
        have hx8 : bits .xor .u8 (ob.toNat : Int) 255 = ((ob ^^^ 255).toNat : Int) := xor_u8 ob 255
        simp only [Value.slice.injEq] at hv4
        obtain ⟨rfl, _, _⟩ := hv4
        have hjn : (m : Int) < (y.n : Int) := by omega
        clear hown hchg hll hsl hset hob hbk4 hic4 hc41 hc42
        go_wp2
        go_roundw
        case rel => exact ⟨m + 1, _, by go_num, by omega, by rw [List.length_set]; exact HLL.out, HSET.out, HSL.out⟩
        case measure => simp [intOf]; omega
      · have HCL : Hid (Chg (fun i => (Value.slice a4 y.n k4).ownBlock = some i) w6 wr) := hchg
        clear hown hchg hll
        have hBQ : Blk wr q #[.int .i64 o.k, .int .i64 o.at_, .int .i64 o.i, .slice o.bo o.bn o.bc, .int .u8 (o.bt.toNat : Int)] 30 := HBQ6.out.of (HCL.out.block q HBQ6.out.lt (fun e => by have := (HMF.out q e).1; have := HQ3.out; omega))
        have c0 : wr.cell? ⟨q, 0, none⟩ = some (.int .i64 2) := by rw [← HK.out]; exact hBQ.cell 0
        have HR7 : Hid (RunA w p n v _ uc ls us wr) := HR6.out.off HWP.out HCL.out (fun i hi => by
          have h1 := HMF.out i hi
          have h3 := HQ3.out
          refine ⟨by have := HWP.out; have := HQP.out.1; omega, fun h => ?_, fun h => ?_⟩
          · have := HQP.out.2.1 i h; omega
          · have := HQP.out.2.2 i h; omega)
        clear HCL hBQ HR6 HBQ6 HBX HM HMF HQP
        have HX : Hid (Calls _ _ _ _ _) := len_any p p v ls wr HR7.out.x.net
        rw [HR7.out.ln] at HX
        go_wp2_with fail
        refine HX.out.mono ?_
        rintro e wz ⟨rfl, hw⟩
        rw [hw]
        clear hw wz HX
        go_wp2_with fail
        refine ⟨⟨k + 1, n, v, _, uc, ls, us, ⟨rfl, rfl, rfl, rfl, rfl, rfl, by go_num⟩, by omega, by omega, by omega, HWP.out, HR7.out⟩, ?_⟩
        simp [Rmu, intOf]; omega
end Go.Proofs.Ytcemecclpofhbaa

/- NetRuns: a round that spoils. Own lemmas, no statement. -/
import Derived.Test.YtcemecclpofhbaaNRun2
import Derived.Test.YtcemecclpofhbaaLast
set_option linter.unusedSimpArgs false
set_option linter.unusedVariables false
namespace Go.Proofs.Ytcemecclpofhbaa
open Go.ChangeShapes Go.WideShapes Go.ChangeAt Go.RowKit

theorem RunA.own_at {w : World} {p n : Nat} {v : Value} {ua : Option Addr} {uc : Nat} {ls us : List LetV} {wx : World} (h : RunA w p n v ua uc ls us wx) {j : Nat} (hj : j < n) :
    ∃ g x y, ua = some ⟨g, 0, none⟩ ∧ ls[j]? = some x ∧ us[j]? = some y ∧ x.dst = y.dst ∧ x.bs = y.bs := by
  obtain ⟨a, c, e, _, _, h4, h5⟩ := h.x.own.form
  simp only [Value.slice.injEq] at e
  obtain ⟨rfl, _, _⟩ := e
  have hl1 : j < ls.length := by rw [h.ln]; exact hj
  have hl2 : j < us.length := by rw [h.len]; exact hj
  have h1 : ls[j]? = some ls[j] := List.getElem?_eq_getElem hl1
  have h2 : us[j]? = some us[j] := List.getElem?_eq_getElem hl2
  have hq := congrArg (fun l => l[j]?) h.q
  simp only [List.getElem?_map, h1, h2, Option.map_some, Option.some.injEq] at hq
  unfold LetV.q at hq
  simp only [Prod.mk.injEq] at hq
  cases ua with
  | none =>
    have := h4 rfl
    have hl := h.len
    rw [this] at hl
    simp at hl
    omega
  | some ad =>
    obtain ⟨g, rfl⟩ := h5 ad rfl
    exact ⟨g, _, _, rfl, h1, h2, hq.1, hq.2⟩
theorem FP_set {p k : Nat} {v : Value} {ls : List LetV} {x y : LetV} (hx : ls[k]? = some x) (hy : y.v = x.v) {i : Nat} (h : FP p v (ls.set k y) i) : FP p v ls i := by
  rcases h with h | h | ⟨z, hz, h⟩
  · exact .inl h
  · exact .inr (.inl h)
  · obtain ⟨j, hj, rfl⟩ := List.getElem_of_mem hz
    rw [List.length_set] at hj
    by_cases e : k = j
    · subst e
      rw [List.getElem_set_self, hy] at h
      exact .inr (.inr ⟨x, List.mem_of_getElem? hx, h⟩)
    · rw [List.getElem_set_ne e] at h
      exact .inr (.inr ⟨_, List.getElem_mem _, h⟩)
theorem spoil_no {B p : Nat} {v : Value} {ls : List LetV} {a i : Int} {bt : UInt8} {w : World} {e : Ending} {w' : World} (h : SpoilP B p v ls a i bt w e w') (ha : a < 0 ∨ (ls.length : Int) ≤ a) : e = .returned (.int .i64 4) ∧ w' = w := by
  rcases h with ⟨_, h⟩ | ⟨x', k', j', ob', h1, h2, h3, h4, _⟩
  · exact h
  · have := (List.getElem?_eq_some_iff.1 h2).1
    omega
theorem own_set2 {W : World} {B : Nat} {v : Value} {l : List UInt8} {i : Nat} (h : Own W B v l) (hi : i < l.length) :
    ∃ g cap cur, v = .slice (some ⟨g, 0, none⟩) l.length cap ∧ Blk W g cur 5 ∧ i < cur.size ∧ l.length ≤ cap ∧ cap ≤ maxLen ∧ (∃ ob : UInt8, l[i]? = some ob ∧ W.cell? ⟨g, i, none⟩ = some (.int .u8 (ob.toNat : Int))) ∧ ∀ c : UInt8, Own (W.setCell ⟨g, i, none⟩ (.int .u8 (c.toNat : Int))) B v (l.set i c) := by
  obtain ⟨g, cap, hv, h1, h2, h3, _, h4⟩ := own_set h hi
  rcases h.2 with ⟨_, hn⟩ | ⟨g', cap', cur, hv', _, hg, hnc, _, hcs, _⟩
  · omega
  · rw [hv] at hv'
    simp only [Value.slice.injEq, Option.some.injEq, Addr.mk.injEq, and_true, true_and] at hv'
    obtain ⟨rfl, rfl⟩ := hv'
    exact ⟨g, cap, cur, hv, hg, by omega, h1, h2, h3, h4⟩
/-- Both letters spoilt. -/
theorem RunA.spoil {w : World} {p n : Nat} {v : Value} {ua : Option Addr} {uc : Nat} {ls us : List LetV} {w3 w4 w5 : World} {j : Nat} {x y : LetV} {b : List UInt8} (h : RunA w p n v ua uc ls us w3) (hwp : w.heap.size ≤ p) (hx : ls[j]? = some x) (hy : us[j]? = some y) (hd : x.dst = y.dst)
    (hN : NetI w4 p p v (ls.set j { x with bs := b })) (hC : Chg (fun i => x.v.ownBlock = some i) w3 w4) (hO : Own w5 p y.v b) (hC5 : Chg (fun i => y.v.ownBlock = some i) w4 w5) :
    RunA w p n v ua uc (ls.set j { x with bs := b }) (us.set j { y with bs := b }) w5 := by
  have hxm := List.mem_of_getElem? hx
  have hym := List.mem_of_getElem? hy
  have h4 : RunX w4 p p v (ls.set j { x with bs := b }) (.slice ua n uc) us := h.x.turnN hN hC (fun i hi => .inr (.inr ⟨x, hxm, hi⟩)) (fun i hi => .inl (FP_set (y := { x with bs := b }) hx rfl hi))
  obtain ⟨hL, hF⟩ := LetI.turn (y := { y with bs := b }) h4.own hy rfl rfl hO hC5
  have h5 := h4.turnL hL hC5 (fun i hi => .inr ⟨y, hym, hi⟩) (fun i hi => .inl (hF i hi))
  refine ⟨h5, ?_, by rw [List.length_set]; exact h.len, ?_⟩
  · rw [List.map_set, List.map_set, h.q]
    unfold LetV.q
    rw [hd]
  · have b1 : Below p w3 w4 := Chg.below hC (by have := h.x.net.blk.lt; omega) (fun i hi => (World.ownsRow.lt (h.x.net.el x hxm).1 i hi).1)
    have b2 : Below p w4 w5 := Chg.below hC5 (by have := hN.blk.lt; omega) (fun i hi => (World.ownsRow.lt (h4.own.el y hym) i hi).1)
    exact (h.below.trans (b1.mono hwp)).trans (b2.mono hwp)
set_option maxRecDepth 100000 in
set_option maxHeartbeats 8000000 in
theorem run_spoil (w : World) (p : Nat) (ad : Addr) (len cap k n : Nat) (hlt1 : k < len) (hlt2 : k < 60) (T : Nat → Value) (v : Value) (ua : Option Addr) (uc : Nat) (ls us : List LetV) (wr : World) (Q : Exit → Act → World → Prop) (o : OpN) (hl63 : len ≤ 9223372036854775807) (hnk : n ≤ k) (hwp : w.heap.size ≤ p) (hop : OpNAt w ad k o) (hra : RunA w p n v ua uc ls us wr) (h4 : o.k = 4) : Goal w p ad len cap k n ua uc T Q wr := by
  have HK : Hid (o.k = 4) := h4
  clear h4
  have huc := hra.uc
  have hn60 : n ≤ 60 := by omega
  have HWP : Hid (w.heap.size ≤ p) := hwp
  have HOP0 : Hid (OpNAt w ad k o) := hop
  have HOP : Hid (OpNAt wr ad k o) := hop.below hra.below
  have HRA : Hid (RunA w p n v ua uc ls us wr) := hra
  have hd1 : decide ((k : Int) < (len : Int)) = true := decide_eq_true (by omega)
  have hd2 : decide ((k : Int) < 60) = true := decide_eq_true (by omega)
  have e0 : wr.cell? (ad.add (k * 5)) = some (.int .i64 o.k) := HOP.out.c0
  have e1 : wr.cell? ⟨(ad.add (k * 5)).block, (ad.add (k * 5)).off + 1, none⟩ = some (.int .i64 o.at_) := cell_on16 (by omega) HOP.out.c1
  have e2 : wr.cell? ⟨(ad.add (k * 5)).block, (ad.add (k * 5)).off + 2, none⟩ = some (.int .i64 o.i) := cell_on16 (by omega) HOP.out.c2
  have e3 : wr.cell? ⟨(ad.add (k * 5)).block, (ad.add (k * 5)).off + 3, none⟩ = some (.slice o.bo o.bn o.bc) := cell_on16 (by omega) HOP.out.c3
  have e4 : wr.cell? ⟨(ad.add (k * 5)).block, (ad.add (k * 5)).off + 4, none⟩ = some (.int .u8 (o.bt.toNat : Int)) := cell_on16 (by omega) HOP.out.c4
  obtain ⟨w3, hw3⟩ : ∃ w3, w3 = wr.alloc (.cells #[.int .i64 o.k, .int .i64 o.at_, .int .i64 o.i, .slice o.bo o.bn o.bc, .int .u8 (o.bt.toNat : Int)] 30) := ⟨_, rfl⟩
  have HB3 : Hid (Blk w3 wr.heap.size #[.int .i64 o.k, .int .i64 o.at_, .int .i64 o.i, .slice o.bo o.bn o.bc, .int .u8 (o.bt.toNat : Int)] 30) := by rw [hw3]; exact Blk.new _ _ _
  have HE3 : Hid (Below wr.heap.size wr w3) := by rw [hw3]; exact below_allocR _
  have ho63 : o.bn ≤ 9223372036854775807 := by have := HOP.out.src.at; unfold maxLen at this; omega
  clear hop hra hwp
  unfold Goal fr
  conv => arg 2; whnf
  go_upto_region 9 with fail
  rw [← hw3]
  clear hw3 e0 e1 e2 e3 e4 hd1 hd2
  have HR3 : Hid (RunA w p n v ua uc ls us w3) := HRA.out.go HE3.out
  have HS3 : Hid (Src w3 (.slice o.bo o.bn o.bc) o.bl ∧ o.bn = o.bl.length) := ⟨HOP.out.src.below HE3.out, HOP.out.src.at.1⟩
  have HWF : Hid ((Lit.int .i64 o.at_).wf = true ∧ (Lit.int .i64 o.i).wf = true) := ⟨HOP.out.w1, HOP.out.w2⟩
  have HQP : Hid (p < wr.heap.size ∧ (∀ i, FP p v ls i → i < wr.heap.size) ∧ ∀ i, FL (.slice ua n uc) us i → i < wr.heap.size) := ⟨HRA.out.x.net.blk.lt, fun i hi => (HRA.out.x.net.fp_lt hi).2, fun i hi => (HRA.out.x.own.lt hi).2⟩
  clear HRA HOP HE3
  generalize wr.heap.size = q at *
  have c0 : w3.cell? ⟨q, 0, none⟩ = some (.int .i64 o.k) := HB3.out.cell 0
  have c1 : w3.cell? ⟨q, 1, none⟩ = some (.int .i64 o.at_) := HB3.out.cell 1
  have c2 : w3.cell? ⟨q, 2, none⟩ = some (.int .i64 o.i) := HB3.out.cell 2
  have c3 : w3.cell? ⟨q, 3, none⟩ = some (.slice o.bo o.bn o.bc) := HB3.out.cell 3
  have c4 : w3.cell? ⟨q, 4, none⟩ = some (.int .u8 (o.bt.toNat : Int)) := HB3.out.cell 4
  by_cases g3 : 300 < o.bn
  · go_wp2_with fail
    refine ⟨⟨k + 1, n, v, ua, uc, ls, us, ⟨rfl, rfl, rfl, rfl, rfl, rfl, by go_num⟩, by omega, by omega, by omega, HWP.out, HR3.out⟩, ?_⟩
    simp [Rmu, intOf]; omega
  rw [HK.out] at c0
  have HX : Hid (Calls _ _ _ _ _) := spoil_any p p v ls o.at_ o.i o.bt w3 HR3.out.x.net
  have hi64 := bounds_i64 HWF.out.2
  rcases in3 o.at_ n with h | ⟨ha, h⟩ | ⟨ha, h⟩
  · have HNO : Hid (∀ e w', SpoilP p p v ls o.at_ o.i o.bt w3 e w' → e = .returned (.int .i64 4) ∧ w' = w3) := fun e w' hs => spoil_no hs (by have := of_decide_eq_false h; omega)
    go_wp2_with fail
    refine HX.out.mono ?_
    rintro e w4 hs
    obtain ⟨rfl, hw⟩ := HNO.out _ _ hs
    rw [hw]
    clear hw hs w4 HX HNO
    have HX : Hid (Calls _ _ _ _ _) := len_any p p v ls w3 HR3.out.x.net
    rw [HR3.out.ln] at HX
    go_wp2_with fail
    refine HX.out.mono ?_
    rintro e wz ⟨rfl, hw⟩
    rw [hw]
    clear hw wz HX
    go_wp2_with fail
    refine ⟨⟨k + 1, n, v, _, uc, ls, us, ⟨rfl, rfl, rfl, rfl, rfl, rfl, by go_num⟩, by omega, by omega, by omega, HWP.out, HR3.out⟩, ?_⟩
    simp [Rmu, intOf]; omega
  · have HNO : Hid (∀ e w', SpoilP p p v ls o.at_ o.i o.bt w3 e w' → e = .returned (.int .i64 4) ∧ w' = w3) := fun e w' hs => spoil_no hs (by have := of_decide_eq_false h; have := HR3.out.ln; omega)
    go_wp2_with fail
    refine HX.out.mono ?_
    rintro e w4 hs
    obtain ⟨rfl, hw⟩ := HNO.out _ _ hs
    rw [hw]
    clear hw hs w4 HX HNO
    have HX : Hid (Calls _ _ _ _ _) := len_any p p v ls w3 HR3.out.x.net
    rw [HR3.out.ln] at HX
    go_wp2_with fail
    refine HX.out.mono ?_
    rintro e wz ⟨rfl, hw⟩
    rw [hw]
    clear hw wz HX
    go_wp2_with fail
    refine ⟨⟨k + 1, n, v, _, uc, ls, us, ⟨rfl, rfl, rfl, rfl, rfl, rfl, by go_num⟩, by omega, by omega, by omega, HWP.out, HR3.out⟩, ?_⟩
    simp [Rmu, intOf]; omega
  · have h5 := of_decide_eq_true h
    have h6 := of_decide_eq_true ha
    obtain ⟨j, hj⟩ : ∃ j : Nat, o.at_ = (j : Int) := ⟨o.at_.toNat, by omega⟩
    rw [hj] at h h5 h6 ha HX c1
    have hjn : j < n := by omega
    obtain ⟨g, x, y, hua, hx, hy, hd, hb⟩ := HR3.out.own_at hjn
    subst hua
    have HXY : Hid (ls[j]? = some x ∧ us[j]? = some y ∧ x.dst = y.dst ∧ x.bs = y.bs) := ⟨hx, hy, hd, hb⟩
    have HYO : Hid (Own w3 p y.v y.bs) := HR3.out.x.own.el y (List.mem_of_getElem? hy)
    have hyn : y.n = y.bs.length := HYO.out.src.at.1
    have HYN : Hid (y.n = y.bs.length) := hyn
    have hyb : y.n ≤ 200 := by
      have := (HR3.out.x.net.el x (List.mem_of_getElem? hx)).2.1
      rw [hb] at this
      omega
    clear hx hy hd hb hyn
    have hjl : (j : Int) < (n : Int) := by omega
    by_cases hneg : o.i < 0
    · have HNO : Hid (∀ e w', SpoilP p p v ls (j : Int) o.i o.bt w3 e w' → e = .returned (.int .i64 4) ∧ w' = w3) := fun e w' hs => spoil_out hs HXY.out.1 (.inl hneg)
      have hp : decide ((0 : Int) ≤ o.i) = false := decide_eq_false (by omega)
      go_wp2_with fail
      refine HX.out.mono ?_
      rintro e w4 hs
      obtain ⟨rfl, hw⟩ := HNO.out _ _ hs
      rw [hw]
      clear hw hs w4 HX HNO
      have HX : Hid (Calls _ _ _ _ _) := len_any p p v ls w3 HR3.out.x.net
      rw [HR3.out.ln] at HX
      go_wp2_with fail
      refine HX.out.mono ?_
      rintro e wz ⟨rfl, hw⟩
      rw [hw]
      clear hw wz HX
      go_wp2_with fail
      refine ⟨⟨k + 1, n, v, _, uc, ls, us, ⟨rfl, rfl, rfl, rfl, rfl, rfl, by go_num⟩, by omega, by omega, by omega, HWP.out, HR3.out⟩, ?_⟩
      simp [Rmu, intOf]; omega
    have hp : decide ((0 : Int) ≤ o.i) = true := decide_eq_true (by omega)
    obtain ⟨i, hi⟩ : ∃ i : Nat, o.i = (i : Int) := ⟨o.i.toNat, by omega⟩
    rw [hi] at hp HX c2 hi64
    clear h5 h6 hneg
    by_cases hin : i < y.n
    · obtain ⟨ob, hob⟩ : ∃ ob, y.bs[i]? = some ob := ⟨_, List.getElem?_eq_getElem (by have := HYN.out; omega)⟩
      have HOB : Hid (y.bs[i]? = some ob) := hob
      have HIN : Hid (i < y.bs.length) := by have := HYN.out; show _ < _; omega
      have HJ : Hid (o.at_ = (j : Int) ∧ o.i = (i : Int)) := ⟨hj, hi⟩
      clear hob hj hi
      go_wp2_with fail
      refine HX.out.mono ?_
      rintro e w4 hs
      obtain ⟨rfl, hN, hC⟩ := spoil_in hs HXY.out.1 (by rw [HXY.out.2.2.2]; exact HOB.out)
      rw [HXY.out.2.2.2] at hN
      have hxm := List.mem_of_getElem? HXY.out.1
      have HN4 : Hid (NetI w4 p p v (ls.set j { x with bs := y.bs.set i (ob ^^^ o.bt) })) := hN
      have HC4 : Hid (Chg (fun i => x.v.ownBlock = some i) w3 w4) := hC
      have HL4 : Hid (LetI w4 p (.slice (some ⟨g, 0, none⟩) n uc) us) := HR3.out.x.own.chg hC (fun i hi hs => HR3.out.x.far i (.inr (.inr ⟨x, hxm, hs⟩)) hi)
      have HB4 : Hid (Blk w4 q #[.int .i64 o.k, .int .i64 o.at_, .int .i64 o.i, .slice o.bo o.bn o.bc, .int .u8 (o.bt.toNat : Int)] 30) := HB3.out.of (hC.block q HB3.out.lt (fun e => Nat.lt_irrefl _ (HQP.out.2.1 q (.inr (.inr ⟨x, hxm, e⟩)))))
      clear hs hN hC hxm HX c0 c1 c2 c3 c4 HYO
      have c1 : w4.cell? ⟨q, 1, none⟩ = some (.int .i64 (j : Int)) := by rw [← HJ.out.1]; exact HB4.out.cell 1
      have c2 : w4.cell? ⟨q, 2, none⟩ = some (.int .i64 (i : Int)) := by rw [← HJ.out.2]; exact HB4.out.cell 2
      have hq : decide ((i : Int) < (y.n : Int)) = true := decide_eq_true (by omega)
      go_upto_region 53 with fail
      refine wp_region_ext (by kernel_rfl) ?_
      haveI nA := cls_ext w4.drew
      have x1 := cellX (W0 := w4.drew) (show w4.drew.cell? ⟨q, 1, none⟩ = some _ from c1)
      have x2 := cellX (W0 := w4.drew) (show w4.drew.cell? ⟨q, 2, none⟩ = some _ from c2)
      have x3 := cellX (W0 := w4.drew) (show w4.drew.cell? ⟨g, j * 2 + 1, none⟩ = some _ from (HL4.out.cell HXY.out.2.1).2)
      refine wpAnyH_seg (by kernel_rfl) (fun _ _ _ h => h) [0, 1, 2, 3, 4, 5, 6, 7, 8, 9, 10] 0 _ _ _ (Ext.refl _) (by kernel_rfl) ?_
      simp only [opsAt, List.getElem?_toArray, List.getElem?_cons_zero, List.getElem?_cons_succ, List.cons_append, List.nil_append]
      repeat (go_big_quiet_step (fail))
      refine wpQuiet_nil ?_
      clear nA x1 x2 x3 c1 c2
      refine wpAnyH_done (by kernel_rfl) (NoPanic.normal ?_) 0
      obtain ⟨w5, hw5⟩ : ∃ w5, w5 = w4.drew.drew := ⟨_, rfl⟩
      have HE5 : Hid (Below w4.heap.size w4 w5) := by rw [hw5]; exact Below.drew (Below.drew (Below.refl _ _))
      have HN5 : Hid (NetI w5 p p v (ls.set j { x with bs := y.bs.set i (ob ^^^ o.bt) })) := HN4.out.below HE5.out
      have HC5 : Hid (Chg (fun i => x.v.ownBlock = some i) w3 w5) := by rw [hw5]; exact HC4.out.drew.drew
      have HL5 : Hid (LetI w5 p (.slice (some ⟨g, 0, none⟩) n uc) us) := HL4.out.below HE5.out
      have HB5 : Hid (Blk w5 q #[.int .i64 o.k, .int .i64 o.at_, .int .i64 o.i, .slice o.bo o.bn o.bc, .int .u8 (o.bt.toNat : Int)] 30) := HB4.out.of (HE5.out.block _ HB4.out.lt)
      clear HN4 HC4 HL4 HB4 HE5
      go_upto_region 57 with fail
      obtain ⟨g2, cap2, cur, hyv, hbk, hic, hc1, hc2, ⟨ob2, hob2, kb⟩, hset⟩ := own_set2 (HL5.out.el y (List.mem_of_getElem? HXY.out.2.1)) HIN.out
      have hoe : ob2 = ob := by have := HOB.out; rw [hob2] at this; cases this; rfl
      subst hoe
      have HSET : Hid (∀ c : UInt8, Own (w5.setCell ⟨g2, i, none⟩ (.int .u8 (c.toNat : Int))) p y.v (y.bs.set i c)) := hset
      have HYV : Hid (y.v.ownBlock = some g2) := by show _ = _; rw [hyv]; rfl
      have hya : y.a = some ⟨g2, 0, none⟩ := by
        unfold LetV.v at hyv
        simp only [Value.slice.injEq] at hyv
        exact hyv.1
      have HT : Hid (w5.there g2 i 1) := thereN 1 hbk (by omega)
      have hx8 : bits .xor .u8 (ob2.toNat : Int) (o.bt.toNat : Int) = ((ob2 ^^^ o.bt).toNat : Int) := xor_u8 _ _
      refine wp_region_last (Ext w4.drew.drew) 14 (by kernel_rfl) (by kernel_rfl) ?_
      simp only [List.pop_toArray, List.dropLast_cons_cons, List.dropLast_singleton]
      rw [← hw5]
      haveI nA := cls_ext w5
      have x1 := cellX (W0 := w5) (show w5.cell? ⟨q, 1, none⟩ = some (.int .i64 (j : Int)) by rw [← HJ.out.1]; exact HB5.out.cell 1)
      have x2 := cellX (W0 := w5) (show w5.cell? ⟨q, 2, none⟩ = some (.int .i64 (i : Int)) by rw [← HJ.out.2]; exact HB5.out.cell 2)
      have x4 := cellX (W0 := w5) (show w5.cell? ⟨q, 4, none⟩ = some (.int .u8 (o.bt.toNat : Int)) from HB5.out.cell 4)
      have x3 := cellX (W0 := w5) (show w5.cell? ⟨g, j * 2 + 1, none⟩ = some (.slice (some ⟨g2, 0, none⟩) y.n y.c) by rw [← hya]; exact (HL5.out.cell HXY.out.2.1).2)
      have x5 := cellX (W0 := w5) kb
      clear hyv hbk hic hc1 hc2 hob2 kb hset hw5 hya
      refine wpAnyH_seg (by kernel_rfl) (fun _ _ _ h => h) [0, 1, 2, 3, 4, 5, 6, 7, 8, 9, 10, 11, 12, 13] 0 _ _ _ (Ext.refl _) (by kernel_rfl) ?_
      simp only [opsAt, List.getElem?_toArray, List.getElem?_cons_zero, List.getElem?_cons_succ, List.cons_append, List.nil_append]
      repeat (go_big_quiet_step (fail))
      refine wpQuiet_nil ?_
      clear nA x1 x2 x3 x4 x5 hx8
      refine wpAnyH_done (by kernel_rfl) (exQ_normal ?_) 0
      refine wpOp_store1 rfl (by kernel_rfl) 5 _ _ rfl rfl g2 i (.int .u8 ((ob2 ^^^ o.bt).toNat : Int)) rfl rfl HT.out (by kernel_rfl) rfl ?_
      have HR6 : Hid (RunA w p n v _ uc _ _ (w5.setCell ⟨g2, i, none⟩ (.int .u8 ((ob2 ^^^ o.bt).toNat : Int)))) := HR3.out.spoil HWP.out HXY.out.1 HXY.out.2.1 HXY.out.2.2.1 HN5.out HC5.out (HSET.out _) (Chg.setCell (S := fun i => y.v.ownBlock = some i) (Chg.refl _ _) ⟨g2, i, none⟩ (fun _ => HYV.out) _)
      clear HR3 HB3 HN5 HC5 HL5 HB5 HSET HT HYV HOB HIN HJ HXY HQP HS3
      generalize w5.setCell ⟨g2, i, none⟩ (.int .u8 ((ob2 ^^^ o.bt).toNat : Int)) = w6 at *
      have HX : Hid (Calls _ _ _ _ _) := len_any p p v _ w6 HR6.out.x.net
      rw [HR6.out.ln] at HX
      go_wp2_with fail
      refine HX.out.mono ?_
      rintro e wz ⟨rfl, hw⟩
      rw [hw]
      clear hw wz HX
      go_wp2_with fail
      refine ⟨⟨k + 1, n, v, _, uc, _, _, ⟨rfl, rfl, rfl, rfl, rfl, rfl, by go_num⟩, by omega, by omega, by omega, HWP.out, HR6.out⟩, ?_⟩
      simp [Rmu, intOf]; omega
    · have HNO : Hid (∀ e w', SpoilP p p v ls (j : Int) (i : Int) o.bt w3 e w' → e = .returned (.int .i64 4) ∧ w' = w3) := fun e w' hs => spoil_out hs HXY.out.1 (.inr (by rw [HXY.out.2.2.2, ← HYN.out]; omega))
      have hq : decide ((i : Int) < (y.n : Int)) = false := decide_eq_false (by omega)
      go_wp2_with fail
      refine HX.out.mono ?_
      rintro e w4 hs
      obtain ⟨rfl, hw⟩ := HNO.out _ _ hs
      rw [hw]
      clear hw hs w4 HX HNO
      go_upto_region 53 with fail
      refine wp_region_ext (by kernel_rfl) ?_
      haveI nA := cls_ext w3.drew
      have x1 := cellX (W0 := w3.drew) (show w3.drew.cell? ⟨q, 1, none⟩ = some _ from c1)
      have x2 := cellX (W0 := w3.drew) (show w3.drew.cell? ⟨q, 2, none⟩ = some _ from c2)
      have x3 := cellX (W0 := w3.drew) (show w3.drew.cell? ⟨g, j * 2 + 1, none⟩ = some _ from (HR3.out.x.own.cell HXY.out.2.1).2)
      refine wpAnyH_seg (by kernel_rfl) (fun _ _ _ h => h) [0, 1, 2, 3, 4, 5, 6, 7, 8, 9, 10] 0 _ _ _ (Ext.refl _) (by kernel_rfl) ?_
      simp only [opsAt, List.getElem?_toArray, List.getElem?_cons_zero, List.getElem?_cons_succ, List.cons_append, List.nil_append]
      repeat (go_big_quiet_step (fail))
      refine wpQuiet_nil ?_
      clear nA x1 x2 x3
      refine wpAnyH_done (by kernel_rfl) (NoPanic.normal ?_) 0
      have HR4 : Hid (RunA w p n v _ uc ls us w3.drew) := HR3.out.go (Below.drew (Below.refl _ _))
      clear c0 c1 c2 c3 c4 HR3
      generalize w3.drew = w4 at *
      have HX : Hid (Calls _ _ _ _ _) := len_any p p v ls w4 HR4.out.x.net
      rw [HR4.out.ln] at HX
      go_wp2_with fail
      refine HX.out.mono ?_
      rintro e wz ⟨rfl, hw⟩
      rw [hw]
      clear hw wz HX
      go_wp2_with fail
      refine ⟨⟨k + 1, n, v, _, uc, ls, us, ⟨rfl, rfl, rfl, rfl, rfl, rfl, by go_num⟩, by omega, by omega, by omega, HWP.out, HR4.out⟩, ?_⟩
      simp [Rmu, intOf]; omega
end Go.Proofs.Ytcemecclpofhbaa

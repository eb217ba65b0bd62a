/- rec: the law's own right, of right records. Own lemmas, no statement. -/
import Derived.Test.YthkmohcdgnldgaaGreatRecL1
import Derived.Test.YthkmohcdgnldgaaGreatSrcSeg
set_option linter.unusedSimpArgs false
set_option linter.unusedVariables false
namespace Go.Proofs.YthkmohcdgnldgaaGreat
open Go.ChangeShapes Go.WideShapes Go.ChangeAt Go.RowKit

set_option maxRecDepth 100000 in
set_option maxHeartbeats 8000000 in
theorem right11_1 (num : Int) (node : Int) (key : ByteArray) (was : Bool) (old : ByteArray) (prev : Int) (na : Option Addr) (nc : Nat) (ra : Option Addr) (rc : Nat) (ga : Option Addr) (gn : Nat) (gc : Nat) (oa : Option Addr) (oc : Nat) (da : Option Addr) (dc : Nat) (ns : List Int) (rs : List ByteArray) (gs : List ChgV) (os : List OpenV) (ds : List DoneV) (w : World) (htid : tidOk num node = true) (hns : Rd w (.slice na 0 nc) (iv ns)) (hnk : nodesOk ns = true) (hrs : Rd w (.slice ra 0 rc) (sv rs)) (hrk : readsOk rs = true) (hprev : prev ≤ 4611686018427387904) (hg : RowsN w 9 ChgV.c (.slice ga gn gc) gs) (hga : ∀ c ∈ gs, c.At w) (hgo : fitsB chgOk chgLt noChg 30 gs = true) (hk1 : 1 ≤ key.size) (hk2 : key.size ≤ 24) (ho1 : old.size ≤ 48) (ho2 : was = true ∨ old.size = 0) :
    Calls Tryz.prog 10 #[.agg #[.int .i64 1, .int .u64 num, .int .i64 node, .string key, .bool was, .string old, .int .u64 prev, .slice na 0 nc, .slice ra 0 rc, .slice ga gn gc, .slice oa 0 oc, .slice da 0 dc]] w (OkP w) := by
  have HNS : Hid (Rd w (.slice na 0 nc) (iv ns) ∧ nodesOk ns = true) := ⟨hns, hnk⟩
  have HRS : Hid (Rd w (.slice ra 0 rc) (sv rs) ∧ readsOk rs = true) := ⟨hrs, hrk⟩
  have HTI : Hid (tidOk num node = true) := htid
  have HG : Hid (RowsN w 9 ChgV.c (.slice ga gn gc) gs) := hg
  have HGA : Hid (∀ c ∈ gs, c.At w) := hga
  have HGO : Hid (fitsB chgOk chgLt noChg 30 gs = true) := hgo
  have hgm : gn ≤ 30 := by have h1 := hg.len.1; have h2 := (fits_mem hgo).1; omega
  clear hg hga hgo
  clear htid hns hnk hrs hrk
  have HB : Hid (Blk (w.alloc (.cells #[.int .i64 1, .int .u64 num, .int .i64 node, .string key, .bool was, .string old, .int .u64 prev, .slice na 0 nc, .slice ra 0 rc, .slice ga gn gc, .slice oa 0 oc, .slice da 0 dc] 31)) w.heap.size #[.int .i64 1, .int .u64 num, .int .i64 node, .string key, .bool was, .string old, .int .u64 prev, .slice na 0 nc, .slice ra 0 rc, .slice ga gn gc, .slice oa 0 oc, .slice da 0 dc] 31) := Blk.new _ _ _
  have HY : Hid (Below w.heap.size w (w.alloc (.cells #[.int .i64 1, .int .u64 num, .int .i64 node, .string key, .bool was, .string old, .int .u64 prev, .slice na 0 nc, .slice ra 0 rc, .slice ga gn gc, .slice oa 0 oc, .slice da 0 dc] 31))) := (Below.refl _ _).alloc (Nat.le_refl _) _
  go_enter Tryz.func10, Tryz.ntmps10
  go_upto_region 1 with fail
  generalize (w.alloc (.cells #[.int .i64 1, .int .u64 num, .int .i64 node, .string key, .bool was, .string old, .int .u64 prev, .slice na 0 nc, .slice ra 0 rc, .slice ga gn gc, .slice oa 0 oc, .slice da 0 dc] 31)) = w0 at *
  have z0 : w0.cell? ⟨w.heap.size, 0, none⟩ = some (.int .i64 1) := HB.out.cell 0
  have z1 : w0.cell? ⟨w.heap.size, 1, none⟩ = some (.int .u64 num) := HB.out.cell 1
  have z2 : w0.cell? ⟨w.heap.size, 2, none⟩ = some (.int .i64 node) := HB.out.cell 2
  have z3 : w0.cell? ⟨w.heap.size, 3, none⟩ = some (.string key) := HB.out.cell 3
  have z4 : w0.cell? ⟨w.heap.size, 4, none⟩ = some (.bool was) := HB.out.cell 4
  have z5 : w0.cell? ⟨w.heap.size, 5, none⟩ = some (.string old) := HB.out.cell 5
  have z6 : w0.cell? ⟨w.heap.size, 6, none⟩ = some (.int .u64 prev) := HB.out.cell 6
  have z7 : w0.cell? ⟨w.heap.size, 7, none⟩ = some (.slice na 0 nc) := HB.out.cell 7
  have z8 : w0.cell? ⟨w.heap.size, 8, none⟩ = some (.slice ra 0 rc) := HB.out.cell 8
  have z9 : w0.cell? ⟨w.heap.size, 9, none⟩ = some (.slice ga gn gc) := HB.out.cell 9
  have z10 : w0.cell? ⟨w.heap.size, 10, none⟩ = some (.slice oa 0 oc) := HB.out.cell 10
  have z11 : w0.cell? ⟨w.heap.size, 11, none⟩ = some (.slice da 0 dc) := HB.out.cell 11
  go_wp2_with fail
  refine (tid_ok num node w0 HTI.out).mono ?_
  rintro e w1 ⟨rfl, y⟩
  have HB' : Hid (Blk w1 w.heap.size #[.int .i64 1, .int .u64 num, .int .i64 node, .string key, .bool was, .string old, .int .u64 prev, .slice na 0 nc, .slice ra 0 rc, .slice ga gn gc, .slice oa 0 oc, .slice da 0 dc] 31) := Blk.of HB.out (y.block _ HB.out.lt)
  have HY' : Hid (Below w.heap.size w w1) := ext_trans HY.out y
  clear HB HY y
  clear z0 z1 z2 z3 z4 z5 z6 z7 z8 z9 z10 z11
  have HB := HB'
  have HY := HY'
  clear HB' HY'
  have z0 : w1.cell? ⟨w.heap.size, 0, none⟩ = some (.int .i64 1) := HB.out.cell 0
  have z1 : w1.cell? ⟨w.heap.size, 1, none⟩ = some (.int .u64 num) := HB.out.cell 1
  have z2 : w1.cell? ⟨w.heap.size, 2, none⟩ = some (.int .i64 node) := HB.out.cell 2
  have z3 : w1.cell? ⟨w.heap.size, 3, none⟩ = some (.string key) := HB.out.cell 3
  have z4 : w1.cell? ⟨w.heap.size, 4, none⟩ = some (.bool was) := HB.out.cell 4
  have z5 : w1.cell? ⟨w.heap.size, 5, none⟩ = some (.string old) := HB.out.cell 5
  have z6 : w1.cell? ⟨w.heap.size, 6, none⟩ = some (.int .u64 prev) := HB.out.cell 6
  have z7 : w1.cell? ⟨w.heap.size, 7, none⟩ = some (.slice na 0 nc) := HB.out.cell 7
  have z8 : w1.cell? ⟨w.heap.size, 8, none⟩ = some (.slice ra 0 rc) := HB.out.cell 8
  have z9 : w1.cell? ⟨w.heap.size, 9, none⟩ = some (.slice ga gn gc) := HB.out.cell 9
  have z10 : w1.cell? ⟨w.heap.size, 10, none⟩ = some (.slice oa 0 oc) := HB.out.cell 10
  have z11 : w1.cell? ⟨w.heap.size, 11, none⟩ = some (.slice da 0 dc) := HB.out.cell 11
  go_wp2_with fail
  refine (rising_ok _ ns w1 (HNS.out.1.below HY.out) HNS.out.2).mono ?_
  rintro e w2 ⟨rfl, y⟩
  have HB' : Hid (Blk w2 w.heap.size #[.int .i64 1, .int .u64 num, .int .i64 node, .string key, .bool was, .string old, .int .u64 prev, .slice na 0 nc, .slice ra 0 rc, .slice ga gn gc, .slice oa 0 oc, .slice da 0 dc] 31) := Blk.of HB.out (y.block _ HB.out.lt)
  have HY' : Hid (Below w.heap.size w w2) := ext_trans HY.out y
  clear HB HY y
  clear z0 z1 z2 z3 z4 z5 z6 z7 z8 z9 z10 z11
  have HB := HB'
  have HY := HY'
  clear HB' HY'
  have z0 : w2.cell? ⟨w.heap.size, 0, none⟩ = some (.int .i64 1) := HB.out.cell 0
  have z1 : w2.cell? ⟨w.heap.size, 1, none⟩ = some (.int .u64 num) := HB.out.cell 1
  have z2 : w2.cell? ⟨w.heap.size, 2, none⟩ = some (.int .i64 node) := HB.out.cell 2
  have z3 : w2.cell? ⟨w.heap.size, 3, none⟩ = some (.string key) := HB.out.cell 3
  have z4 : w2.cell? ⟨w.heap.size, 4, none⟩ = some (.bool was) := HB.out.cell 4
  have z5 : w2.cell? ⟨w.heap.size, 5, none⟩ = some (.string old) := HB.out.cell 5
  have z6 : w2.cell? ⟨w.heap.size, 6, none⟩ = some (.int .u64 prev) := HB.out.cell 6
  have z7 : w2.cell? ⟨w.heap.size, 7, none⟩ = some (.slice na 0 nc) := HB.out.cell 7
  have z8 : w2.cell? ⟨w.heap.size, 8, none⟩ = some (.slice ra 0 rc) := HB.out.cell 8
  have z9 : w2.cell? ⟨w.heap.size, 9, none⟩ = some (.slice ga gn gc) := HB.out.cell 9
  have z10 : w2.cell? ⟨w.heap.size, 10, none⟩ = some (.slice oa 0 oc) := HB.out.cell 10
  have z11 : w2.cell? ⟨w.heap.size, 11, none⟩ = some (.slice da 0 dc) := HB.out.cell 11
  go_wp2_with fail
  refine (keys_ok _ rs w2 (HRS.out.1.below HY.out) HRS.out.2).mono ?_
  rintro e w3 ⟨rfl, y⟩
  have HB' : Hid (Blk w3 w.heap.size #[.int .i64 1, .int .u64 num, .int .i64 node, .string key, .bool was, .string old, .int .u64 prev, .slice na 0 nc, .slice ra 0 rc, .slice ga gn gc, .slice oa 0 oc, .slice da 0 dc] 31) := Blk.of HB.out (y.block _ HB.out.lt)
  have HY' : Hid (Below w.heap.size w w3) := ext_trans HY.out y
  clear HB HY y
  clear z0 z1 z2 z3 z4 z5 z6 z7 z8 z9 z10 z11
  have HB := HB'
  have HY := HY'
  clear HB' HY'
  have z0 : w3.cell? ⟨w.heap.size, 0, none⟩ = some (.int .i64 1) := HB.out.cell 0
  have z1 : w3.cell? ⟨w.heap.size, 1, none⟩ = some (.int .u64 num) := HB.out.cell 1
  have z2 : w3.cell? ⟨w.heap.size, 2, none⟩ = some (.int .i64 node) := HB.out.cell 2
  have z3 : w3.cell? ⟨w.heap.size, 3, none⟩ = some (.string key) := HB.out.cell 3
  have z4 : w3.cell? ⟨w.heap.size, 4, none⟩ = some (.bool was) := HB.out.cell 4
  have z5 : w3.cell? ⟨w.heap.size, 5, none⟩ = some (.string old) := HB.out.cell 5
  have z6 : w3.cell? ⟨w.heap.size, 6, none⟩ = some (.int .u64 prev) := HB.out.cell 6
  have z7 : w3.cell? ⟨w.heap.size, 7, none⟩ = some (.slice na 0 nc) := HB.out.cell 7
  have z8 : w3.cell? ⟨w.heap.size, 8, none⟩ = some (.slice ra 0 rc) := HB.out.cell 8
  have z9 : w3.cell? ⟨w.heap.size, 9, none⟩ = some (.slice ga gn gc) := HB.out.cell 9
  have z10 : w3.cell? ⟨w.heap.size, 10, none⟩ = some (.slice oa 0 oc) := HB.out.cell 10
  have z11 : w3.cell? ⟨w.heap.size, 11, none⟩ = some (.slice da 0 dc) := HB.out.cell 11
  have hk3 : ¬ key.size < 1 := by omega
  have hk4 : ¬ 24 < key.size := by omega
  have ho3 : ¬ 48 < old.size := by omega
  have HFW : Hid (was = true ∨ old.size = 0) := ho2
  clear ho2
  cases was with
  | true =>
    go_wp2
    clear z0 z1 z2 z3 z4 z5 z6 z7 z8 z9 z10 z11
    go_loopw [155] (fun i wr => ∃ k : Nat, i = .int .i64 (k : Int) ∧ k ≤ gn ∧ Below w.heap.size w wr ∧ Blk wr w.heap.size #[.int .i64 1, .int .u64 num, .int .i64 node, .string key, .bool true, .string old, .int .u64 prev, .slice na 0 nc, .slice ra 0 rc, .slice ga gn gc, .slice oa 0 oc, .slice da 0 dc] 31) (fun i _ => gn - (intOf i).toNat)
    case atStart => exact ⟨0, rfl, Nat.zero_le _, HY.out, HB.out⟩
    case round =>
      obtain ⟨k, rfl, hk, hy, hb⟩ := hrel
      clear HY HB
      have HY : Hid (Below w.heap.size w wr) := hy
      have HB : Hid (Blk wr w.heap.size #[.int .i64 1, .int .u64 num, .int .i64 node, .string key, .bool true, .string old, .int .u64 prev, .slice na 0 nc, .slice ra 0 rc, .slice ga gn gc, .slice oa 0 oc, .slice da 0 dc] 31) := hb
      clear hy hb
      by_cases hlt : k < gn
      · have hkl : k < gs.length := by rw [← HG.out.len.1]; exact hlt
        have hi2 : (k : Int) < (gn : Int) := by omega
        obtain ⟨ad, had⟩ := RowsN.adr HG.out (by omega)
        subst had
        have HH : Hid (RowsN wr 9 _ (.slice (some ad) _ _) gs) := HG.out.below HY.out
        have e0 : wr.cell? (ad.add (k * 9)) = some _ := HH.out.at0 hkl rfl
        have e1 : wr.cell? ⟨(ad.add (k * 9)).block, (ad.add (k * 9)).off + 1, none⟩ = some _ := HH.out.atS hkl 0 rfl
        have e2 : wr.cell? ⟨(ad.add (k * 9)).block, (ad.add (k * 9)).off + 2, none⟩ = some _ := HH.out.atS hkl 1 rfl
        have e3 : wr.cell? ⟨(ad.add (k * 9)).block, (ad.add (k * 9)).off + 3, none⟩ = some _ := HH.out.atS hkl 2 rfl
        have e4 : wr.cell? ⟨(ad.add (k * 9)).block, (ad.add (k * 9)).off + 4, none⟩ = some _ := HH.out.atS hkl 3 rfl
        have e5 : wr.cell? ⟨(ad.add (k * 9)).block, (ad.add (k * 9)).off + 5, none⟩ = some _ := HH.out.atS hkl 4 rfl
        have e6 : wr.cell? ⟨(ad.add (k * 9)).block, (ad.add (k * 9)).off + 6, none⟩ = some _ := HH.out.atS hkl 5 rfl
        have e7 : wr.cell? ⟨(ad.add (k * 9)).block, (ad.add (k * 9)).off + 7, none⟩ = some _ := HH.out.atS hkl 6 rfl
        have e8 : wr.cell? ⟨(ad.add (k * 9)).block, (ad.add (k * 9)).off + 8, none⟩ = some _ := HH.out.atS hkl 7 rfl
        obtain ⟨hr1, hr2⟩ := fits_at HGO.out hkl
        have HR1 : Hid (_ = true) := hr1
        have HR2 : Hid (∀ j (hj : j < gs.length), k = j + 1 → _ = true) := hr2
        have HQA : Hid (gs[k].At w) := HGA.out _ (List.getElem_mem hkl)
        clear hr1 hr2
        generalize gs[k] = q at *
        have HY' : Hid (Below w.heap.size w (wr.alloc (.cells #[.int .i64 q.n, .int .i64 q.p.kind, .slice q.ka q.kn q.kc, .slice q.va q.vn q.vc, .slice q.da q.dn q.dc, .int .i64 q.p.root, .int .i64 q.p.next, .int .i64 q.p.size, .int .i64 q.p.idle] 49))) := HY.out.alloc HY.out.size _
        have HB' : Hid (Blk (wr.alloc (.cells #[.int .i64 q.n, .int .i64 q.p.kind, .slice q.ka q.kn q.kc, .slice q.va q.vn q.vc, .slice q.da q.dn q.dc, .int .i64 q.p.root, .int .i64 q.p.next, .int .i64 q.p.size, .int .i64 q.p.idle] 49)) w.heap.size #[.int .i64 1, .int .u64 num, .int .i64 node, .string key, .bool true, .string old, .int .u64 prev, .slice na 0 nc, .slice ra 0 rc, .slice (some ad) gn gc, .slice oa 0 oc, .slice da 0 dc] 31) := HB.out.alloc _
        have HQ : Hid (Blk (wr.alloc (.cells #[.int .i64 q.n, .int .i64 q.p.kind, .slice q.ka q.kn q.kc, .slice q.va q.vn q.vc, .slice q.da q.dn q.dc, .int .i64 q.p.root, .int .i64 q.p.next, .int .i64 q.p.size, .int .i64 q.p.idle] 49)) wr.heap.size #[.int .i64 q.n, .int .i64 q.p.kind, .slice q.ka q.kn q.kc, .slice q.va q.vn q.vc, .slice q.da q.dn q.dc, .int .i64 q.p.root, .int .i64 q.p.next, .int .i64 q.p.size, .int .i64 q.p.idle] 49) := Blk.new _ _ _
        have HH' : Hid (RowsN (wr.alloc (.cells #[.int .i64 q.n, .int .i64 q.p.kind, .slice q.ka q.kn q.kc, .slice q.va q.vn q.vc, .slice q.da q.dn q.dc, .int .i64 q.p.root, .int .i64 q.p.next, .int .i64 q.p.size, .int .i64 q.p.idle] 49)) 9 _ (.slice (some ad) _ _) gs) := HH.out.below (below_allocR _)
        go_upto_region 13 with fail
        clear e0 e1 e2 e3 e4 e5 e6 e7 e8 HH HY HB
        generalize (wr.alloc (.cells #[.int .i64 q.n, .int .i64 q.p.kind, .slice q.ka q.kn q.kc, .slice q.va q.vn q.vc, .slice q.da q.dn q.dc, .int .i64 q.p.root, .int .i64 q.p.next, .int .i64 q.p.size, .int .i64 q.p.idle] 49)) = y0 at *
        obtain ⟨b, hbb⟩ : ∃ b, wr.heap.size = b := ⟨_, rfl⟩
        rw [hbb] at HQ ⊢
        clear hbb
        rcases (show k = 0 ∨ ∃ m, k = m + 1 from by cases k; exact .inl rfl; exact .inr ⟨_, rfl⟩) with hk0 | ⟨m, hm⟩
        · have hk1 : ¬ 0 < k := by omega
          have hk2 : ¬ (0 : Int) < (k : Int) := by omega
          have hk5 : decide ((0 : Int) < (k : Int)) = false := decide_eq_false hk2
          clear HR2 HH' hk0
          obtain ⟨hn0, hn1⟩ := (chg_parts HR1.out).1
          have hn2 : ¬ q.n < 0 := by omega
          have hn3 : ¬ 65535 < q.n := by omega
          have HPR : Hid (rightPg q.p = true) := (chg_parts HR1.out).2
          refine wp_region_ext (by kernel_rfl) ?_
          haveI nA := cls_ext y0.drew
          have u0 := cellX (W0 := y0.drew) (show y0.drew.cell? ⟨b, 0, none⟩ = some (.int .i64 q.n) from (Blk.of HQ.out ((Below.drew (Below.refl _ y0)).block _ HQ.out.lt)).cell 0)
          have u1 := cellX (W0 := y0.drew) (show y0.drew.cell? ⟨b, 1, none⟩ = some (.int .i64 q.p.kind) from (Blk.of HQ.out ((Below.drew (Below.refl _ y0)).block _ HQ.out.lt)).cell 1)
          have u2 := cellX (W0 := y0.drew) (show y0.drew.cell? ⟨b, 2, none⟩ = some (.slice q.ka q.kn q.kc) from (Blk.of HQ.out ((Below.drew (Below.refl _ y0)).block _ HQ.out.lt)).cell 2)
          have u3 := cellX (W0 := y0.drew) (show y0.drew.cell? ⟨b, 3, none⟩ = some (.slice q.va q.vn q.vc) from (Blk.of HQ.out ((Below.drew (Below.refl _ y0)).block _ HQ.out.lt)).cell 3)
          have u4 := cellX (W0 := y0.drew) (show y0.drew.cell? ⟨b, 4, none⟩ = some (.slice q.da q.dn q.dc) from (Blk.of HQ.out ((Below.drew (Below.refl _ y0)).block _ HQ.out.lt)).cell 4)
          have u5 := cellX (W0 := y0.drew) (show y0.drew.cell? ⟨b, 5, none⟩ = some (.int .i64 q.p.root) from (Blk.of HQ.out ((Below.drew (Below.refl _ y0)).block _ HQ.out.lt)).cell 5)
          have u6 := cellX (W0 := y0.drew) (show y0.drew.cell? ⟨b, 6, none⟩ = some (.int .i64 q.p.next) from (Blk.of HQ.out ((Below.drew (Below.refl _ y0)).block _ HQ.out.lt)).cell 6)
          have u7 := cellX (W0 := y0.drew) (show y0.drew.cell? ⟨b, 7, none⟩ = some (.int .i64 q.p.size) from (Blk.of HQ.out ((Below.drew (Below.refl _ y0)).block _ HQ.out.lt)).cell 7)
          have u8 := cellX (W0 := y0.drew) (show y0.drew.cell? ⟨b, 8, none⟩ = some (.int .i64 q.p.idle) from (Blk.of HQ.out ((Below.drew (Below.refl _ y0)).block _ HQ.out.lt)).cell 8)
          have HYr : Hid (Below y0.heap.size y0 y0.drew) := Below.drew (Below.refl _ _)
          refine wpAnyH_seg (by kernel_rfl) (fun _ _ _ h => h) [0, 1, 2, 3, 4, 5, 6, 7, 8, 9, 10] 19 _ _ _ (Ext.refl _) (by kernel_rfl) ?_
          simp only [opsAt, List.getElem?_toArray, List.getElem?_cons_zero, List.getElem?_cons_succ, List.cons_append, List.nil_append]
          repeat (go_big_quiet_step (fail))
          refine wpQuiet_nil ?_
          clear nA u0 u1 u2 u3 u4 u5 u6 u7 u8
          refine wpAnyH_callE (i := 11) (fuel := 18) 171 rfl (by kernel_rfl) rfl (Ext.refl _) (by kernel_rfl) (f := 25) (args := #[.agg #[.int .i64 q.p.kind, .slice q.ka q.kn q.kc, .slice q.va q.vn q.vc, .slice q.da q.dn q.dc, .int .i64 q.p.root, .int .i64 q.p.next, .int .i64 q.p.size, .int .i64 q.p.idle]]) (by kernel_rfl) (page_ok q.p _ _ _ y0.drew (((HQA.out.below HY'.out).below HYr.out).rd) HQA.out.ok HPR.out) ?_
          rintro e x1 ⟨rfl, y⟩
          refine ⟨_, rfl, y, ?_⟩
          have HYr' : Hid (Below y0.heap.size y0 x1) := ext_trans HYr.out y
          clear HYr y
          have HYr := HYr'
          clear HYr'
          simp only [Act.put, List.setIfInBounds_toArray, List.set_cons_succ, List.set_cons_zero]
          haveI nA := cls_ext x1
          have u0 := cellX (W0 := x1) (show x1.cell? ⟨b, 0, none⟩ = some (.int .i64 q.n) from (Blk.of HQ.out (HYr.out.block _ HQ.out.lt)).cell 0)
          have u1 := cellX (W0 := x1) (show x1.cell? ⟨b, 1, none⟩ = some (.int .i64 q.p.kind) from (Blk.of HQ.out (HYr.out.block _ HQ.out.lt)).cell 1)
          have u2 := cellX (W0 := x1) (show x1.cell? ⟨b, 2, none⟩ = some (.slice q.ka q.kn q.kc) from (Blk.of HQ.out (HYr.out.block _ HQ.out.lt)).cell 2)
          have u3 := cellX (W0 := x1) (show x1.cell? ⟨b, 3, none⟩ = some (.slice q.va q.vn q.vc) from (Blk.of HQ.out (HYr.out.block _ HQ.out.lt)).cell 3)
          have u4 := cellX (W0 := x1) (show x1.cell? ⟨b, 4, none⟩ = some (.slice q.da q.dn q.dc) from (Blk.of HQ.out (HYr.out.block _ HQ.out.lt)).cell 4)
          have u5 := cellX (W0 := x1) (show x1.cell? ⟨b, 5, none⟩ = some (.int .i64 q.p.root) from (Blk.of HQ.out (HYr.out.block _ HQ.out.lt)).cell 5)
          have u6 := cellX (W0 := x1) (show x1.cell? ⟨b, 6, none⟩ = some (.int .i64 q.p.next) from (Blk.of HQ.out (HYr.out.block _ HQ.out.lt)).cell 6)
          have u7 := cellX (W0 := x1) (show x1.cell? ⟨b, 7, none⟩ = some (.int .i64 q.p.size) from (Blk.of HQ.out (HYr.out.block _ HQ.out.lt)).cell 7)
          have u8 := cellX (W0 := x1) (show x1.cell? ⟨b, 8, none⟩ = some (.int .i64 q.p.idle) from (Blk.of HQ.out (HYr.out.block _ HQ.out.lt)).cell 8)
          refine wpAnyH_seg (by kernel_rfl) (fun _ _ _ h => h) [12, 13, 14, 15, 16, 17, 18, 19, 20, 21, 22, 23, 24, 25, 26, 27, 28, 29] 0 _ _ _ (Ext.refl _) (by kernel_rfl) ?_
          simp only [opsAt, List.getElem?_toArray, List.getElem?_cons_zero, List.getElem?_cons_succ, List.cons_append, List.nil_append]
          repeat (go_big_quiet_step (fail))
          refine wpQuiet_nil ?_
          clear nA u0 u1 u2 u3 u4 u5 u6 u7 u8
          refine wpAnyH_done (by kernel_rfl) (NoPanic.normal ?_) 0
          have HYZ : Hid (Below w.heap.size w x1) := ext_trans HY'.out HYr.out
          have HBZ : Hid (Blk x1 w.heap.size #[.int .i64 1, .int .u64 num, .int .i64 node, .string key, .bool true, .string old, .int .u64 prev, .slice na 0 nc, .slice ra 0 rc, .slice (some ad) gn gc, .slice oa 0 oc, .slice da 0 dc] 31) := Blk.of HB'.out (HYr.out.block _ HB'.out.lt)
          go_wp2
          go_roundw
          case rel => exact ⟨k + 1, by go_num, by omega, HYZ.out, HBZ.out⟩
          case measure => simp [intOf]; omega
        · have hml : m < gs.length := by omega
          have HA2 : Hid (_ = true) := HR2.out m hml hm
          have hk1 : 0 < k := by omega
          have hk2 : (0 : Int) < (k : Int) := by omega
          have hk5 : decide ((0 : Int) < (k : Int)) = true := decide_eq_true hk2
          have hk3 : (k : Int) - 1 = (m : Int) := by omega
          have hk4 : m < gn := by omega
          have HM0 : Hid (∀ W, Below y0.heap.size y0 W → W.cell? (ad.add (m * 9)) = some (.int .i64 gs[m].n)) := fun W hW => (HH'.out.below hW).at0 hml rfl
          clear HH'
          obtain ⟨hn0, hn1⟩ := (chg_parts HR1.out).1
          have hn2 : ¬ q.n < 0 := by omega
          have hn3 : ¬ 65535 < q.n := by omega
          have HPR : Hid (rightPg q.p = true) := (chg_parts HR1.out).2
          have hn4 : (gs[m]).n < q.n := by have h := HA2.out; unfold chgLt ltI at h; exact of_decide_eq_true h
          have hn5 : ¬ q.n ≤ (gs[m]).n := by omega
          generalize gs[m] = m0 at *
          clear HR2 hm hml
          refine wp_region_ext (by kernel_rfl) ?_
          haveI nA := cls_ext y0.drew
          have u0 := cellX (W0 := y0.drew) (show y0.drew.cell? ⟨b, 0, none⟩ = some (.int .i64 q.n) from (Blk.of HQ.out ((Below.drew (Below.refl _ y0)).block _ HQ.out.lt)).cell 0)
          have u1 := cellX (W0 := y0.drew) (show y0.drew.cell? ⟨b, 1, none⟩ = some (.int .i64 q.p.kind) from (Blk.of HQ.out ((Below.drew (Below.refl _ y0)).block _ HQ.out.lt)).cell 1)
          have u2 := cellX (W0 := y0.drew) (show y0.drew.cell? ⟨b, 2, none⟩ = some (.slice q.ka q.kn q.kc) from (Blk.of HQ.out ((Below.drew (Below.refl _ y0)).block _ HQ.out.lt)).cell 2)
          have u3 := cellX (W0 := y0.drew) (show y0.drew.cell? ⟨b, 3, none⟩ = some (.slice q.va q.vn q.vc) from (Blk.of HQ.out ((Below.drew (Below.refl _ y0)).block _ HQ.out.lt)).cell 3)
          have u4 := cellX (W0 := y0.drew) (show y0.drew.cell? ⟨b, 4, none⟩ = some (.slice q.da q.dn q.dc) from (Blk.of HQ.out ((Below.drew (Below.refl _ y0)).block _ HQ.out.lt)).cell 4)
          have u5 := cellX (W0 := y0.drew) (show y0.drew.cell? ⟨b, 5, none⟩ = some (.int .i64 q.p.root) from (Blk.of HQ.out ((Below.drew (Below.refl _ y0)).block _ HQ.out.lt)).cell 5)
          have u6 := cellX (W0 := y0.drew) (show y0.drew.cell? ⟨b, 6, none⟩ = some (.int .i64 q.p.next) from (Blk.of HQ.out ((Below.drew (Below.refl _ y0)).block _ HQ.out.lt)).cell 6)
          have u7 := cellX (W0 := y0.drew) (show y0.drew.cell? ⟨b, 7, none⟩ = some (.int .i64 q.p.size) from (Blk.of HQ.out ((Below.drew (Below.refl _ y0)).block _ HQ.out.lt)).cell 7)
          have u8 := cellX (W0 := y0.drew) (show y0.drew.cell? ⟨b, 8, none⟩ = some (.int .i64 q.p.idle) from (Blk.of HQ.out ((Below.drew (Below.refl _ y0)).block _ HQ.out.lt)).cell 8)
          have p9 := cellX (W0 := y0.drew) (show y0.drew.cell? ⟨w.heap.size, 9, none⟩ = some (.slice (some ad) gn gc) from (Blk.of HB'.out ((Below.drew (Below.refl _ y0)).block _ HB'.out.lt)).cell 9)
          have m9 := cellX (W0 := y0.drew) (HM0.out _ (Below.drew (Below.refl _ y0)))
          have HYr : Hid (Below y0.heap.size y0 y0.drew) := Below.drew (Below.refl _ _)
          refine wpAnyH_seg (by kernel_rfl) (fun _ _ _ h => h) [0, 1, 2, 3, 4, 5, 6, 7, 8, 9, 10] 19 _ _ _ (Ext.refl _) (by kernel_rfl) ?_
          simp only [opsAt, List.getElem?_toArray, List.getElem?_cons_zero, List.getElem?_cons_succ, List.cons_append, List.nil_append]
          repeat (go_big_quiet_step (fail))
          refine wpQuiet_nil ?_
          clear nA u0 u1 u2 u3 u4 u5 u6 u7 u8 p9 m9
          refine wpAnyH_callE (i := 11) (fuel := 18) 171 rfl (by kernel_rfl) rfl (Ext.refl _) (by kernel_rfl) (f := 25) (args := #[.agg #[.int .i64 q.p.kind, .slice q.ka q.kn q.kc, .slice q.va q.vn q.vc, .slice q.da q.dn q.dc, .int .i64 q.p.root, .int .i64 q.p.next, .int .i64 q.p.size, .int .i64 q.p.idle]]) (by kernel_rfl) (page_ok q.p _ _ _ y0.drew (((HQA.out.below HY'.out).below HYr.out).rd) HQA.out.ok HPR.out) ?_
          rintro e x1 ⟨rfl, y⟩
          refine ⟨_, rfl, y, ?_⟩
          have HYr' : Hid (Below y0.heap.size y0 x1) := ext_trans HYr.out y
          clear HYr y
          have HYr := HYr'
          clear HYr'
          simp only [Act.put, List.setIfInBounds_toArray, List.set_cons_succ, List.set_cons_zero]
          haveI nA := cls_ext x1
          have u0 := cellX (W0 := x1) (show x1.cell? ⟨b, 0, none⟩ = some (.int .i64 q.n) from (Blk.of HQ.out (HYr.out.block _ HQ.out.lt)).cell 0)
          have u1 := cellX (W0 := x1) (show x1.cell? ⟨b, 1, none⟩ = some (.int .i64 q.p.kind) from (Blk.of HQ.out (HYr.out.block _ HQ.out.lt)).cell 1)
          have u2 := cellX (W0 := x1) (show x1.cell? ⟨b, 2, none⟩ = some (.slice q.ka q.kn q.kc) from (Blk.of HQ.out (HYr.out.block _ HQ.out.lt)).cell 2)
          have u3 := cellX (W0 := x1) (show x1.cell? ⟨b, 3, none⟩ = some (.slice q.va q.vn q.vc) from (Blk.of HQ.out (HYr.out.block _ HQ.out.lt)).cell 3)
          have u4 := cellX (W0 := x1) (show x1.cell? ⟨b, 4, none⟩ = some (.slice q.da q.dn q.dc) from (Blk.of HQ.out (HYr.out.block _ HQ.out.lt)).cell 4)
          have u5 := cellX (W0 := x1) (show x1.cell? ⟨b, 5, none⟩ = some (.int .i64 q.p.root) from (Blk.of HQ.out (HYr.out.block _ HQ.out.lt)).cell 5)
          have u6 := cellX (W0 := x1) (show x1.cell? ⟨b, 6, none⟩ = some (.int .i64 q.p.next) from (Blk.of HQ.out (HYr.out.block _ HQ.out.lt)).cell 6)
          have u7 := cellX (W0 := x1) (show x1.cell? ⟨b, 7, none⟩ = some (.int .i64 q.p.size) from (Blk.of HQ.out (HYr.out.block _ HQ.out.lt)).cell 7)
          have u8 := cellX (W0 := x1) (show x1.cell? ⟨b, 8, none⟩ = some (.int .i64 q.p.idle) from (Blk.of HQ.out (HYr.out.block _ HQ.out.lt)).cell 8)
          have p9 := cellX (W0 := x1) (show x1.cell? ⟨w.heap.size, 9, none⟩ = some (.slice (some ad) gn gc) from (Blk.of HB'.out (HYr.out.block _ HB'.out.lt)).cell 9)
          have m9 := cellX (W0 := x1) (HM0.out _ HYr.out)
          refine wpAnyH_seg (by kernel_rfl) (fun _ _ _ h => h) [12, 13, 14, 15, 16, 17, 18, 19, 20, 21, 22, 23, 24, 25, 26, 27, 28, 29] 0 _ _ _ (Ext.refl _) (by kernel_rfl) ?_
          simp only [opsAt, List.getElem?_toArray, List.getElem?_cons_zero, List.getElem?_cons_succ, List.cons_append, List.nil_append]
          repeat (go_big_quiet_step (fail))
          refine wpQuiet_nil ?_
          clear nA u0 u1 u2 u3 u4 u5 u6 u7 u8 p9 m9
          refine wpAnyH_done (by kernel_rfl) (NoPanic.normal ?_) 0
          have HYZ : Hid (Below w.heap.size w x1) := ext_trans HY'.out HYr.out
          have HBZ : Hid (Blk x1 w.heap.size #[.int .i64 1, .int .u64 num, .int .i64 node, .string key, .bool true, .string old, .int .u64 prev, .slice na 0 nc, .slice ra 0 rc, .slice (some ad) gn gc, .slice oa 0 oc, .slice da 0 dc] 31) := Blk.of HB'.out (HYr.out.block _ HB'.out.lt)
          go_wp2
          go_roundw
          case rel => exact ⟨k + 1, by go_num, by omega, HYZ.out, HBZ.out⟩
          case measure => simp [intOf]; omega
      · clear hk
        rename World => wa
        have z0 : wa.cell? ⟨w.heap.size, 0, none⟩ = some (.int .i64 1) := HB.out.cell 0
        have z1 : wa.cell? ⟨w.heap.size, 1, none⟩ = some (.int .u64 num) := HB.out.cell 1
        have z2 : wa.cell? ⟨w.heap.size, 2, none⟩ = some (.int .i64 node) := HB.out.cell 2
        have z3 : wa.cell? ⟨w.heap.size, 3, none⟩ = some (.string key) := HB.out.cell 3
        have z4 : wa.cell? ⟨w.heap.size, 4, none⟩ = some (.bool true) := HB.out.cell 4
        have z5 : wa.cell? ⟨w.heap.size, 5, none⟩ = some (.string old) := HB.out.cell 5
        have z6 : wa.cell? ⟨w.heap.size, 6, none⟩ = some (.int .u64 prev) := HB.out.cell 6
        have z7 : wa.cell? ⟨w.heap.size, 7, none⟩ = some (.slice na 0 nc) := HB.out.cell 7
        have z8 : wa.cell? ⟨w.heap.size, 8, none⟩ = some (.slice ra 0 rc) := HB.out.cell 8
        have z9 : wa.cell? ⟨w.heap.size, 9, none⟩ = some (.slice ga gn gc) := HB.out.cell 9
        have z10 : wa.cell? ⟨w.heap.size, 10, none⟩ = some (.slice oa 0 oc) := HB.out.cell 10
        have z11 : wa.cell? ⟨w.heap.size, 11, none⟩ = some (.slice da 0 dc) := HB.out.cell 11
        go_wp2
        clear z0 z1 z2 z3 z4 z5 z6 z7 z8 z9 z10 z11
        go_loopw [194] (fun i wr => i = .int .i64 0 ∧ Below w.heap.size w wr ∧ Blk wr w.heap.size #[.int .i64 1, .int .u64 num, .int .i64 node, .string key, .bool true, .string old, .int .u64 prev, .slice na 0 nc, .slice ra 0 rc, .slice ga gn gc, .slice oa 0 oc, .slice da 0 dc] 31) (fun _ _ => 0)
        case atStart => exact ⟨rfl, HY.out, HB.out⟩
        case round =>
          obtain ⟨rfl, hy, hb⟩ := hrel
          clear HY HB
          have HY : Hid (Below w.heap.size w wr) := hy
          have HB : Hid (Blk wr w.heap.size #[.int .i64 1, .int .u64 num, .int .i64 node, .string key, .bool true, .string old, .int .u64 prev, .slice na 0 nc, .slice ra 0 rc, .slice ga gn gc, .slice oa 0 oc, .slice da 0 dc] 31) := hb
          clear hy hb
          rename World => wb
          have z0 : wb.cell? ⟨w.heap.size, 0, none⟩ = some (.int .i64 1) := HB.out.cell 0
          have z1 : wb.cell? ⟨w.heap.size, 1, none⟩ = some (.int .u64 num) := HB.out.cell 1
          have z2 : wb.cell? ⟨w.heap.size, 2, none⟩ = some (.int .i64 node) := HB.out.cell 2
          have z3 : wb.cell? ⟨w.heap.size, 3, none⟩ = some (.string key) := HB.out.cell 3
          have z4 : wb.cell? ⟨w.heap.size, 4, none⟩ = some (.bool true) := HB.out.cell 4
          have z5 : wb.cell? ⟨w.heap.size, 5, none⟩ = some (.string old) := HB.out.cell 5
          have z6 : wb.cell? ⟨w.heap.size, 6, none⟩ = some (.int .u64 prev) := HB.out.cell 6
          have z7 : wb.cell? ⟨w.heap.size, 7, none⟩ = some (.slice na 0 nc) := HB.out.cell 7
          have z8 : wb.cell? ⟨w.heap.size, 8, none⟩ = some (.slice ra 0 rc) := HB.out.cell 8
          have z9 : wb.cell? ⟨w.heap.size, 9, none⟩ = some (.slice ga gn gc) := HB.out.cell 9
          have z10 : wb.cell? ⟨w.heap.size, 10, none⟩ = some (.slice oa 0 oc) := HB.out.cell 10
          have z11 : wb.cell? ⟨w.heap.size, 11, none⟩ = some (.slice da 0 dc) := HB.out.cell 11
          go_wp2
          clear z0 z1 z2 z3 z4 z5 z6 z7 z8 z9 z10 z11
          go_loopw [250] (fun i wr => i = .int .i64 0 ∧ Below w.heap.size w wr ∧ Blk wr w.heap.size #[.int .i64 1, .int .u64 num, .int .i64 node, .string key, .bool true, .string old, .int .u64 prev, .slice na 0 nc, .slice ra 0 rc, .slice ga gn gc, .slice oa 0 oc, .slice da 0 dc] 31) (fun _ _ => 0)
          case atStart => exact ⟨rfl, HY.out, HB.out⟩
          case round =>
            obtain ⟨rfl, hy, hb⟩ := hrel
            clear HY HB
            have HY : Hid (Below w.heap.size w wr) := hy
            have HB : Hid (Blk wr w.heap.size #[.int .i64 1, .int .u64 num, .int .i64 node, .string key, .bool true, .string old, .int .u64 prev, .slice na 0 nc, .slice ra 0 rc, .slice ga gn gc, .slice oa 0 oc, .slice da 0 dc] 31) := hb
            clear hy hb
            rename World => wc
            go_wp2
            go_ret
            exact ⟨rfl, HY.out⟩
  | false =>
    have ho5 : old.size = 0 := by rcases HFW.out with h | h; cases h; exact h
    have ho4 : ¬ 0 < old.size := by omega
    go_wp2
    clear z0 z1 z2 z3 z4 z5 z6 z7 z8 z9 z10 z11
    go_loopw [155] (fun i wr => ∃ k : Nat, i = .int .i64 (k : Int) ∧ k ≤ gn ∧ Below w.heap.size w wr ∧ Blk wr w.heap.size #[.int .i64 1, .int .u64 num, .int .i64 node, .string key, .bool false, .string old, .int .u64 prev, .slice na 0 nc, .slice ra 0 rc, .slice ga gn gc, .slice oa 0 oc, .slice da 0 dc] 31) (fun i _ => gn - (intOf i).toNat)
    case atStart => exact ⟨0, rfl, Nat.zero_le _, HY.out, HB.out⟩
    case round =>
      obtain ⟨k, rfl, hk, hy, hb⟩ := hrel
      clear HY HB
      have HY : Hid (Below w.heap.size w wr) := hy
      have HB : Hid (Blk wr w.heap.size #[.int .i64 1, .int .u64 num, .int .i64 node, .string key, .bool false, .string old, .int .u64 prev, .slice na 0 nc, .slice ra 0 rc, .slice ga gn gc, .slice oa 0 oc, .slice da 0 dc] 31) := hb
      clear hy hb
      by_cases hlt : k < gn
      · have hkl : k < gs.length := by rw [← HG.out.len.1]; exact hlt
        have hi2 : (k : Int) < (gn : Int) := by omega
        obtain ⟨ad, had⟩ := RowsN.adr HG.out (by omega)
        subst had
        have HH : Hid (RowsN wr 9 _ (.slice (some ad) _ _) gs) := HG.out.below HY.out
        have e0 : wr.cell? (ad.add (k * 9)) = some _ := HH.out.at0 hkl rfl
        have e1 : wr.cell? ⟨(ad.add (k * 9)).block, (ad.add (k * 9)).off + 1, none⟩ = some _ := HH.out.atS hkl 0 rfl
        have e2 : wr.cell? ⟨(ad.add (k * 9)).block, (ad.add (k * 9)).off + 2, none⟩ = some _ := HH.out.atS hkl 1 rfl
        have e3 : wr.cell? ⟨(ad.add (k * 9)).block, (ad.add (k * 9)).off + 3, none⟩ = some _ := HH.out.atS hkl 2 rfl
        have e4 : wr.cell? ⟨(ad.add (k * 9)).block, (ad.add (k * 9)).off + 4, none⟩ = some _ := HH.out.atS hkl 3 rfl
        have e5 : wr.cell? ⟨(ad.add (k * 9)).block, (ad.add (k * 9)).off + 5, none⟩ = some _ := HH.out.atS hkl 4 rfl
        have e6 : wr.cell? ⟨(ad.add (k * 9)).block, (ad.add (k * 9)).off + 6, none⟩ = some _ := HH.out.atS hkl 5 rfl
        have e7 : wr.cell? ⟨(ad.add (k * 9)).block, (ad.add (k * 9)).off + 7, none⟩ = some _ := HH.out.atS hkl 6 rfl
        have e8 : wr.cell? ⟨(ad.add (k * 9)).block, (ad.add (k * 9)).off + 8, none⟩ = some _ := HH.out.atS hkl 7 rfl
        obtain ⟨hr1, hr2⟩ := fits_at HGO.out hkl
        have HR1 : Hid (_ = true) := hr1
        have HR2 : Hid (∀ j (hj : j < gs.length), k = j + 1 → _ = true) := hr2
        have HQA : Hid (gs[k].At w) := HGA.out _ (List.getElem_mem hkl)
        clear hr1 hr2
        generalize gs[k] = q at *
        have HY' : Hid (Below w.heap.size w (wr.alloc (.cells #[.int .i64 q.n, .int .i64 q.p.kind, .slice q.ka q.kn q.kc, .slice q.va q.vn q.vc, .slice q.da q.dn q.dc, .int .i64 q.p.root, .int .i64 q.p.next, .int .i64 q.p.size, .int .i64 q.p.idle] 49))) := HY.out.alloc HY.out.size _
        have HB' : Hid (Blk (wr.alloc (.cells #[.int .i64 q.n, .int .i64 q.p.kind, .slice q.ka q.kn q.kc, .slice q.va q.vn q.vc, .slice q.da q.dn q.dc, .int .i64 q.p.root, .int .i64 q.p.next, .int .i64 q.p.size, .int .i64 q.p.idle] 49)) w.heap.size #[.int .i64 1, .int .u64 num, .int .i64 node, .string key, .bool false, .string old, .int .u64 prev, .slice na 0 nc, .slice ra 0 rc, .slice (some ad) gn gc, .slice oa 0 oc, .slice da 0 dc] 31) := HB.out.alloc _
        have HQ : Hid (Blk (wr.alloc (.cells #[.int .i64 q.n, .int .i64 q.p.kind, .slice q.ka q.kn q.kc, .slice q.va q.vn q.vc, .slice q.da q.dn q.dc, .int .i64 q.p.root, .int .i64 q.p.next, .int .i64 q.p.size, .int .i64 q.p.idle] 49)) wr.heap.size #[.int .i64 q.n, .int .i64 q.p.kind, .slice q.ka q.kn q.kc, .slice q.va q.vn q.vc, .slice q.da q.dn q.dc, .int .i64 q.p.root, .int .i64 q.p.next, .int .i64 q.p.size, .int .i64 q.p.idle] 49) := Blk.new _ _ _
        have HH' : Hid (RowsN (wr.alloc (.cells #[.int .i64 q.n, .int .i64 q.p.kind, .slice q.ka q.kn q.kc, .slice q.va q.vn q.vc, .slice q.da q.dn q.dc, .int .i64 q.p.root, .int .i64 q.p.next, .int .i64 q.p.size, .int .i64 q.p.idle] 49)) 9 _ (.slice (some ad) _ _) gs) := HH.out.below (below_allocR _)
        go_upto_region 13 with fail
        clear e0 e1 e2 e3 e4 e5 e6 e7 e8 HH HY HB
        generalize (wr.alloc (.cells #[.int .i64 q.n, .int .i64 q.p.kind, .slice q.ka q.kn q.kc, .slice q.va q.vn q.vc, .slice q.da q.dn q.dc, .int .i64 q.p.root, .int .i64 q.p.next, .int .i64 q.p.size, .int .i64 q.p.idle] 49)) = y0 at *
        obtain ⟨b, hbb⟩ : ∃ b, wr.heap.size = b := ⟨_, rfl⟩
        rw [hbb] at HQ ⊢
        clear hbb
        rcases (show k = 0 ∨ ∃ m, k = m + 1 from by cases k; exact .inl rfl; exact .inr ⟨_, rfl⟩) with hk0 | ⟨m, hm⟩
        · have hk1 : ¬ 0 < k := by omega
          have hk2 : ¬ (0 : Int) < (k : Int) := by omega
          have hk5 : decide ((0 : Int) < (k : Int)) = false := decide_eq_false hk2
          clear HR2 HH' hk0
          obtain ⟨hn0, hn1⟩ := (chg_parts HR1.out).1
          have hn2 : ¬ q.n < 0 := by omega
          have hn3 : ¬ 65535 < q.n := by omega
          have HPR : Hid (rightPg q.p = true) := (chg_parts HR1.out).2
          refine wp_region_ext (by kernel_rfl) ?_
          haveI nA := cls_ext y0.drew
          have u0 := cellX (W0 := y0.drew) (show y0.drew.cell? ⟨b, 0, none⟩ = some (.int .i64 q.n) from (Blk.of HQ.out ((Below.drew (Below.refl _ y0)).block _ HQ.out.lt)).cell 0)
          have u1 := cellX (W0 := y0.drew) (show y0.drew.cell? ⟨b, 1, none⟩ = some (.int .i64 q.p.kind) from (Blk.of HQ.out ((Below.drew (Below.refl _ y0)).block _ HQ.out.lt)).cell 1)
          have u2 := cellX (W0 := y0.drew) (show y0.drew.cell? ⟨b, 2, none⟩ = some (.slice q.ka q.kn q.kc) from (Blk.of HQ.out ((Below.drew (Below.refl _ y0)).block _ HQ.out.lt)).cell 2)
          have u3 := cellX (W0 := y0.drew) (show y0.drew.cell? ⟨b, 3, none⟩ = some (.slice q.va q.vn q.vc) from (Blk.of HQ.out ((Below.drew (Below.refl _ y0)).block _ HQ.out.lt)).cell 3)
          have u4 := cellX (W0 := y0.drew) (show y0.drew.cell? ⟨b, 4, none⟩ = some (.slice q.da q.dn q.dc) from (Blk.of HQ.out ((Below.drew (Below.refl _ y0)).block _ HQ.out.lt)).cell 4)
          have u5 := cellX (W0 := y0.drew) (show y0.drew.cell? ⟨b, 5, none⟩ = some (.int .i64 q.p.root) from (Blk.of HQ.out ((Below.drew (Below.refl _ y0)).block _ HQ.out.lt)).cell 5)
          have u6 := cellX (W0 := y0.drew) (show y0.drew.cell? ⟨b, 6, none⟩ = some (.int .i64 q.p.next) from (Blk.of HQ.out ((Below.drew (Below.refl _ y0)).block _ HQ.out.lt)).cell 6)
          have u7 := cellX (W0 := y0.drew) (show y0.drew.cell? ⟨b, 7, none⟩ = some (.int .i64 q.p.size) from (Blk.of HQ.out ((Below.drew (Below.refl _ y0)).block _ HQ.out.lt)).cell 7)
          have u8 := cellX (W0 := y0.drew) (show y0.drew.cell? ⟨b, 8, none⟩ = some (.int .i64 q.p.idle) from (Blk.of HQ.out ((Below.drew (Below.refl _ y0)).block _ HQ.out.lt)).cell 8)
          have HYr : Hid (Below y0.heap.size y0 y0.drew) := Below.drew (Below.refl _ _)
          refine wpAnyH_seg (by kernel_rfl) (fun _ _ _ h => h) [0, 1, 2, 3, 4, 5, 6, 7, 8, 9, 10] 19 _ _ _ (Ext.refl _) (by kernel_rfl) ?_
          simp only [opsAt, List.getElem?_toArray, List.getElem?_cons_zero, List.getElem?_cons_succ, List.cons_append, List.nil_append]
          repeat (go_big_quiet_step (fail))
          refine wpQuiet_nil ?_
          clear nA u0 u1 u2 u3 u4 u5 u6 u7 u8
          refine wpAnyH_callE (i := 11) (fuel := 18) 171 rfl (by kernel_rfl) rfl (Ext.refl _) (by kernel_rfl) (f := 25) (args := #[.agg #[.int .i64 q.p.kind, .slice q.ka q.kn q.kc, .slice q.va q.vn q.vc, .slice q.da q.dn q.dc, .int .i64 q.p.root, .int .i64 q.p.next, .int .i64 q.p.size, .int .i64 q.p.idle]]) (by kernel_rfl) (page_ok q.p _ _ _ y0.drew (((HQA.out.below HY'.out).below HYr.out).rd) HQA.out.ok HPR.out) ?_
          rintro e x1 ⟨rfl, y⟩
          refine ⟨_, rfl, y, ?_⟩
          have HYr' : Hid (Below y0.heap.size y0 x1) := ext_trans HYr.out y
          clear HYr y
          have HYr := HYr'
          clear HYr'
          simp only [Act.put, List.setIfInBounds_toArray, List.set_cons_succ, List.set_cons_zero]
          haveI nA := cls_ext x1
          have u0 := cellX (W0 := x1) (show x1.cell? ⟨b, 0, none⟩ = some (.int .i64 q.n) from (Blk.of HQ.out (HYr.out.block _ HQ.out.lt)).cell 0)
          have u1 := cellX (W0 := x1) (show x1.cell? ⟨b, 1, none⟩ = some (.int .i64 q.p.kind) from (Blk.of HQ.out (HYr.out.block _ HQ.out.lt)).cell 1)
          have u2 := cellX (W0 := x1) (show x1.cell? ⟨b, 2, none⟩ = some (.slice q.ka q.kn q.kc) from (Blk.of HQ.out (HYr.out.block _ HQ.out.lt)).cell 2)
          have u3 := cellX (W0 := x1) (show x1.cell? ⟨b, 3, none⟩ = some (.slice q.va q.vn q.vc) from (Blk.of HQ.out (HYr.out.block _ HQ.out.lt)).cell 3)
          have u4 := cellX (W0 := x1) (show x1.cell? ⟨b, 4, none⟩ = some (.slice q.da q.dn q.dc) from (Blk.of HQ.out (HYr.out.block _ HQ.out.lt)).cell 4)
          have u5 := cellX (W0 := x1) (show x1.cell? ⟨b, 5, none⟩ = some (.int .i64 q.p.root) from (Blk.of HQ.out (HYr.out.block _ HQ.out.lt)).cell 5)
          have u6 := cellX (W0 := x1) (show x1.cell? ⟨b, 6, none⟩ = some (.int .i64 q.p.next) from (Blk.of HQ.out (HYr.out.block _ HQ.out.lt)).cell 6)
          have u7 := cellX (W0 := x1) (show x1.cell? ⟨b, 7, none⟩ = some (.int .i64 q.p.size) from (Blk.of HQ.out (HYr.out.block _ HQ.out.lt)).cell 7)
          have u8 := cellX (W0 := x1) (show x1.cell? ⟨b, 8, none⟩ = some (.int .i64 q.p.idle) from (Blk.of HQ.out (HYr.out.block _ HQ.out.lt)).cell 8)
          refine wpAnyH_seg (by kernel_rfl) (fun _ _ _ h => h) [12, 13, 14, 15, 16, 17, 18, 19, 20, 21, 22, 23, 24, 25, 26, 27, 28, 29] 0 _ _ _ (Ext.refl _) (by kernel_rfl) ?_
          simp only [opsAt, List.getElem?_toArray, List.getElem?_cons_zero, List.getElem?_cons_succ, List.cons_append, List.nil_append]
          repeat (go_big_quiet_step (fail))
          refine wpQuiet_nil ?_
          clear nA u0 u1 u2 u3 u4 u5 u6 u7 u8
          refine wpAnyH_done (by kernel_rfl) (NoPanic.normal ?_) 0
          have HYZ : Hid (Below w.heap.size w x1) := ext_trans HY'.out HYr.out
          have HBZ : Hid (Blk x1 w.heap.size #[.int .i64 1, .int .u64 num, .int .i64 node, .string key, .bool false, .string old, .int .u64 prev, .slice na 0 nc, .slice ra 0 rc, .slice (some ad) gn gc, .slice oa 0 oc, .slice da 0 dc] 31) := Blk.of HB'.out (HYr.out.block _ HB'.out.lt)
          go_wp2
          go_roundw
          case rel => exact ⟨k + 1, by go_num, by omega, HYZ.out, HBZ.out⟩
          case measure => simp [intOf]; omega
        · have hml : m < gs.length := by omega
          have HA2 : Hid (_ = true) := HR2.out m hml hm
          have hk1 : 0 < k := by omega
          have hk2 : (0 : Int) < (k : Int) := by omega
          have hk5 : decide ((0 : Int) < (k : Int)) = true := decide_eq_true hk2
          have hk3 : (k : Int) - 1 = (m : Int) := by omega
          have hk4 : m < gn := by omega
          have HM0 : Hid (∀ W, Below y0.heap.size y0 W → W.cell? (ad.add (m * 9)) = some (.int .i64 gs[m].n)) := fun W hW => (HH'.out.below hW).at0 hml rfl
          clear HH'
          obtain ⟨hn0, hn1⟩ := (chg_parts HR1.out).1
          have hn2 : ¬ q.n < 0 := by omega
          have hn3 : ¬ 65535 < q.n := by omega
          have HPR : Hid (rightPg q.p = true) := (chg_parts HR1.out).2
          have hn4 : (gs[m]).n < q.n := by have h := HA2.out; unfold chgLt ltI at h; exact of_decide_eq_true h
          have hn5 : ¬ q.n ≤ (gs[m]).n := by omega
          generalize gs[m] = m0 at *
          clear HR2 hm hml
          refine wp_region_ext (by kernel_rfl) ?_
          haveI nA := cls_ext y0.drew
          have u0 := cellX (W0 := y0.drew) (show y0.drew.cell? ⟨b, 0, none⟩ = some (.int .i64 q.n) from (Blk.of HQ.out ((Below.drew (Below.refl _ y0)).block _ HQ.out.lt)).cell 0)
          have u1 := cellX (W0 := y0.drew) (show y0.drew.cell? ⟨b, 1, none⟩ = some (.int .i64 q.p.kind) from (Blk.of HQ.out ((Below.drew (Below.refl _ y0)).block _ HQ.out.lt)).cell 1)
          have u2 := cellX (W0 := y0.drew) (show y0.drew.cell? ⟨b, 2, none⟩ = some (.slice q.ka q.kn q.kc) from (Blk.of HQ.out ((Below.drew (Below.refl _ y0)).block _ HQ.out.lt)).cell 2)
          have u3 := cellX (W0 := y0.drew) (show y0.drew.cell? ⟨b, 3, none⟩ = some (.slice q.va q.vn q.vc) from (Blk.of HQ.out ((Below.drew (Below.refl _ y0)).block _ HQ.out.lt)).cell 3)
          have u4 := cellX (W0 := y0.drew) (show y0.drew.cell? ⟨b, 4, none⟩ = some (.slice q.da q.dn q.dc) from (Blk.of HQ.out ((Below.drew (Below.refl _ y0)).block _ HQ.out.lt)).cell 4)
          have u5 := cellX (W0 := y0.drew) (show y0.drew.cell? ⟨b, 5, none⟩ = some (.int .i64 q.p.root) from (Blk.of HQ.out ((Below.drew (Below.refl _ y0)).block _ HQ.out.lt)).cell 5)
          have u6 := cellX (W0 := y0.drew) (show y0.drew.cell? ⟨b, 6, none⟩ = some (.int .i64 q.p.next) from (Blk.of HQ.out ((Below.drew (Below.refl _ y0)).block _ HQ.out.lt)).cell 6)
          have u7 := cellX (W0 := y0.drew) (show y0.drew.cell? ⟨b, 7, none⟩ = some (.int .i64 q.p.size) from (Blk.of HQ.out ((Below.drew (Below.refl _ y0)).block _ HQ.out.lt)).cell 7)
          have u8 := cellX (W0 := y0.drew) (show y0.drew.cell? ⟨b, 8, none⟩ = some (.int .i64 q.p.idle) from (Blk.of HQ.out ((Below.drew (Below.refl _ y0)).block _ HQ.out.lt)).cell 8)
          have p9 := cellX (W0 := y0.drew) (show y0.drew.cell? ⟨w.heap.size, 9, none⟩ = some (.slice (some ad) gn gc) from (Blk.of HB'.out ((Below.drew (Below.refl _ y0)).block _ HB'.out.lt)).cell 9)
          have m9 := cellX (W0 := y0.drew) (HM0.out _ (Below.drew (Below.refl _ y0)))
          have HYr : Hid (Below y0.heap.size y0 y0.drew) := Below.drew (Below.refl _ _)
          refine wpAnyH_seg (by kernel_rfl) (fun _ _ _ h => h) [0, 1, 2, 3, 4, 5, 6, 7, 8, 9, 10] 19 _ _ _ (Ext.refl _) (by kernel_rfl) ?_
          simp only [opsAt, List.getElem?_toArray, List.getElem?_cons_zero, List.getElem?_cons_succ, List.cons_append, List.nil_append]
          repeat (go_big_quiet_step (fail))
          refine wpQuiet_nil ?_
          clear nA u0 u1 u2 u3 u4 u5 u6 u7 u8 p9 m9
          refine wpAnyH_callE (i := 11) (fuel := 18) 171 rfl (by kernel_rfl) rfl (Ext.refl _) (by kernel_rfl) (f := 25) (args := #[.agg #[.int .i64 q.p.kind, .slice q.ka q.kn q.kc, .slice q.va q.vn q.vc, .slice q.da q.dn q.dc, .int .i64 q.p.root, .int .i64 q.p.next, .int .i64 q.p.size, .int .i64 q.p.idle]]) (by kernel_rfl) (page_ok q.p _ _ _ y0.drew (((HQA.out.below HY'.out).below HYr.out).rd) HQA.out.ok HPR.out) ?_
          rintro e x1 ⟨rfl, y⟩
          refine ⟨_, rfl, y, ?_⟩
          have HYr' : Hid (Below y0.heap.size y0 x1) := ext_trans HYr.out y
          clear HYr y
          have HYr := HYr'
          clear HYr'
          simp only [Act.put, List.setIfInBounds_toArray, List.set_cons_succ, List.set_cons_zero]
          haveI nA := cls_ext x1
          have u0 := cellX (W0 := x1) (show x1.cell? ⟨b, 0, none⟩ = some (.int .i64 q.n) from (Blk.of HQ.out (HYr.out.block _ HQ.out.lt)).cell 0)
          have u1 := cellX (W0 := x1) (show x1.cell? ⟨b, 1, none⟩ = some (.int .i64 q.p.kind) from (Blk.of HQ.out (HYr.out.block _ HQ.out.lt)).cell 1)
          have u2 := cellX (W0 := x1) (show x1.cell? ⟨b, 2, none⟩ = some (.slice q.ka q.kn q.kc) from (Blk.of HQ.out (HYr.out.block _ HQ.out.lt)).cell 2)
          have u3 := cellX (W0 := x1) (show x1.cell? ⟨b, 3, none⟩ = some (.slice q.va q.vn q.vc) from (Blk.of HQ.out (HYr.out.block _ HQ.out.lt)).cell 3)
          have u4 := cellX (W0 := x1) (show x1.cell? ⟨b, 4, none⟩ = some (.slice q.da q.dn q.dc) from (Blk.of HQ.out (HYr.out.block _ HQ.out.lt)).cell 4)
          have u5 := cellX (W0 := x1) (show x1.cell? ⟨b, 5, none⟩ = some (.int .i64 q.p.root) from (Blk.of HQ.out (HYr.out.block _ HQ.out.lt)).cell 5)
          have u6 := cellX (W0 := x1) (show x1.cell? ⟨b, 6, none⟩ = some (.int .i64 q.p.next) from (Blk.of HQ.out (HYr.out.block _ HQ.out.lt)).cell 6)
          have u7 := cellX (W0 := x1) (show x1.cell? ⟨b, 7, none⟩ = some (.int .i64 q.p.size) from (Blk.of HQ.out (HYr.out.block _ HQ.out.lt)).cell 7)
          have u8 := cellX (W0 := x1) (show x1.cell? ⟨b, 8, none⟩ = some (.int .i64 q.p.idle) from (Blk.of HQ.out (HYr.out.block _ HQ.out.lt)).cell 8)
          have p9 := cellX (W0 := x1) (show x1.cell? ⟨w.heap.size, 9, none⟩ = some (.slice (some ad) gn gc) from (Blk.of HB'.out (HYr.out.block _ HB'.out.lt)).cell 9)
          have m9 := cellX (W0 := x1) (HM0.out _ HYr.out)
          refine wpAnyH_seg (by kernel_rfl) (fun _ _ _ h => h) [12, 13, 14, 15, 16, 17, 18, 19, 20, 21, 22, 23, 24, 25, 26, 27, 28, 29] 0 _ _ _ (Ext.refl _) (by kernel_rfl) ?_
          simp only [opsAt, List.getElem?_toArray, List.getElem?_cons_zero, List.getElem?_cons_succ, List.cons_append, List.nil_append]
          repeat (go_big_quiet_step (fail))
          refine wpQuiet_nil ?_
          clear nA u0 u1 u2 u3 u4 u5 u6 u7 u8 p9 m9
          refine wpAnyH_done (by kernel_rfl) (NoPanic.normal ?_) 0
          have HYZ : Hid (Below w.heap.size w x1) := ext_trans HY'.out HYr.out
          have HBZ : Hid (Blk x1 w.heap.size #[.int .i64 1, .int .u64 num, .int .i64 node, .string key, .bool false, .string old, .int .u64 prev, .slice na 0 nc, .slice ra 0 rc, .slice (some ad) gn gc, .slice oa 0 oc, .slice da 0 dc] 31) := Blk.of HB'.out (HYr.out.block _ HB'.out.lt)
          go_wp2
          go_roundw
          case rel => exact ⟨k + 1, by go_num, by omega, HYZ.out, HBZ.out⟩
          case measure => simp [intOf]; omega
      · clear hk
        rename World => wa
        have z0 : wa.cell? ⟨w.heap.size, 0, none⟩ = some (.int .i64 1) := HB.out.cell 0
        have z1 : wa.cell? ⟨w.heap.size, 1, none⟩ = some (.int .u64 num) := HB.out.cell 1
        have z2 : wa.cell? ⟨w.heap.size, 2, none⟩ = some (.int .i64 node) := HB.out.cell 2
        have z3 : wa.cell? ⟨w.heap.size, 3, none⟩ = some (.string key) := HB.out.cell 3
        have z4 : wa.cell? ⟨w.heap.size, 4, none⟩ = some (.bool false) := HB.out.cell 4
        have z5 : wa.cell? ⟨w.heap.size, 5, none⟩ = some (.string old) := HB.out.cell 5
        have z6 : wa.cell? ⟨w.heap.size, 6, none⟩ = some (.int .u64 prev) := HB.out.cell 6
        have z7 : wa.cell? ⟨w.heap.size, 7, none⟩ = some (.slice na 0 nc) := HB.out.cell 7
        have z8 : wa.cell? ⟨w.heap.size, 8, none⟩ = some (.slice ra 0 rc) := HB.out.cell 8
        have z9 : wa.cell? ⟨w.heap.size, 9, none⟩ = some (.slice ga gn gc) := HB.out.cell 9
        have z10 : wa.cell? ⟨w.heap.size, 10, none⟩ = some (.slice oa 0 oc) := HB.out.cell 10
        have z11 : wa.cell? ⟨w.heap.size, 11, none⟩ = some (.slice da 0 dc) := HB.out.cell 11
        go_wp2
        clear z0 z1 z2 z3 z4 z5 z6 z7 z8 z9 z10 z11
        go_loopw [194] (fun i wr => i = .int .i64 0 ∧ Below w.heap.size w wr ∧ Blk wr w.heap.size #[.int .i64 1, .int .u64 num, .int .i64 node, .string key, .bool false, .string old, .int .u64 prev, .slice na 0 nc, .slice ra 0 rc, .slice ga gn gc, .slice oa 0 oc, .slice da 0 dc] 31) (fun _ _ => 0)
        case atStart => exact ⟨rfl, HY.out, HB.out⟩
        case round =>
          obtain ⟨rfl, hy, hb⟩ := hrel
          clear HY HB
          have HY : Hid (Below w.heap.size w wr) := hy
          have HB : Hid (Blk wr w.heap.size #[.int .i64 1, .int .u64 num, .int .i64 node, .string key, .bool false, .string old, .int .u64 prev, .slice na 0 nc, .slice ra 0 rc, .slice ga gn gc, .slice oa 0 oc, .slice da 0 dc] 31) := hb
          clear hy hb
          rename World => wb
          have z0 : wb.cell? ⟨w.heap.size, 0, none⟩ = some (.int .i64 1) := HB.out.cell 0
          have z1 : wb.cell? ⟨w.heap.size, 1, none⟩ = some (.int .u64 num) := HB.out.cell 1
          have z2 : wb.cell? ⟨w.heap.size, 2, none⟩ = some (.int .i64 node) := HB.out.cell 2
          have z3 : wb.cell? ⟨w.heap.size, 3, none⟩ = some (.string key) := HB.out.cell 3
          have z4 : wb.cell? ⟨w.heap.size, 4, none⟩ = some (.bool false) := HB.out.cell 4
          have z5 : wb.cell? ⟨w.heap.size, 5, none⟩ = some (.string old) := HB.out.cell 5
          have z6 : wb.cell? ⟨w.heap.size, 6, none⟩ = some (.int .u64 prev) := HB.out.cell 6
          have z7 : wb.cell? ⟨w.heap.size, 7, none⟩ = some (.slice na 0 nc) := HB.out.cell 7
          have z8 : wb.cell? ⟨w.heap.size, 8, none⟩ = some (.slice ra 0 rc) := HB.out.cell 8
          have z9 : wb.cell? ⟨w.heap.size, 9, none⟩ = some (.slice ga gn gc) := HB.out.cell 9
          have z10 : wb.cell? ⟨w.heap.size, 10, none⟩ = some (.slice oa 0 oc) := HB.out.cell 10
          have z11 : wb.cell? ⟨w.heap.size, 11, none⟩ = some (.slice da 0 dc) := HB.out.cell 11
          go_wp2
          clear z0 z1 z2 z3 z4 z5 z6 z7 z8 z9 z10 z11
          go_loopw [250] (fun i wr => i = .int .i64 0 ∧ Below w.heap.size w wr ∧ Blk wr w.heap.size #[.int .i64 1, .int .u64 num, .int .i64 node, .string key, .bool false, .string old, .int .u64 prev, .slice na 0 nc, .slice ra 0 rc, .slice ga gn gc, .slice oa 0 oc, .slice da 0 dc] 31) (fun _ _ => 0)
          case atStart => exact ⟨rfl, HY.out, HB.out⟩
          case round =>
            obtain ⟨rfl, hy, hb⟩ := hrel
            clear HY HB
            have HY : Hid (Below w.heap.size w wr) := hy
            have HB : Hid (Blk wr w.heap.size #[.int .i64 1, .int .u64 num, .int .i64 node, .string key, .bool false, .string old, .int .u64 prev, .slice na 0 nc, .slice ra 0 rc, .slice ga gn gc, .slice oa 0 oc, .slice da 0 dc] 31) := hb
            clear hy hb
            rename World => wc
            go_wp2
            go_ret
            exact ⟨rfl, HY.out⟩

set_option maxRecDepth 100000 in
set_option maxHeartbeats 8000000 in
theorem right11_8 (na : Option Addr) (nc : Nat) (ra : Option Addr) (rc : Nat) (ga : Option Addr) (gc : Nat) (oa : Option Addr) (om : Nat) (oc : Nat) (da : Option Addr) (dn : Nat) (dc : Nat) (ns : List Int) (rs : List ByteArray) (gs : List ChgV) (os : List OpenV) (ds : List DoneV) (w : World) (htid : tidOk (0 : Int) 0 = true) (hns : Rd w (.slice na 0 nc) (iv ns)) (hnk : nodesOk ns = true) (hrs : Rd w (.slice ra 0 rc) (sv rs)) (hrk : readsOk rs = true) (ho : RowsN w 7 OpenV.c (.slice oa om oc) os) (hoa : ∀ c ∈ os, c.At w) (hoo : fitsB openOk openLt noOpen 200 os = true) (hd : RowsN w 3 DoneV.c (.slice da dn dc) ds) (hda : ∀ c ∈ ds, c.At w) (hdo : fitsB doneOk doneLt noDone 200 ds = true) :
    Calls Tryz.prog 10 #[.agg #[.int .i64 8, .int .u64 0, .int .i64 0, .string (⟨#[]⟩ : ByteArray), .bool false, .string (⟨#[]⟩ : ByteArray), .int .u64 0, .slice na 0 nc, .slice ra 0 rc, .slice ga 0 gc, .slice oa om oc, .slice da dn dc]] w (OkP w) := by
  have HNS : Hid (Rd w (.slice na 0 nc) (iv ns) ∧ nodesOk ns = true) := ⟨hns, hnk⟩
  have HRS : Hid (Rd w (.slice ra 0 rc) (sv rs) ∧ readsOk rs = true) := ⟨hrs, hrk⟩
  have HTI : Hid (tidOk (0 : Int) 0 = true) := htid
  have HO : Hid (RowsN w 7 OpenV.c (.slice oa om oc) os) := ho
  have HOA : Hid (∀ c ∈ os, c.At w) := hoa
  have HOO : Hid (fitsB openOk openLt noOpen 200 os = true) := hoo
  have hom : om ≤ 200 := by have h1 := ho.len.1; have h2 := (fits_mem hoo).1; omega
  have HD : Hid (RowsN w 3 DoneV.c (.slice da dn dc) ds) := hd
  have HDA : Hid (∀ c ∈ ds, c.At w) := hda
  have HDO : Hid (fitsB doneOk doneLt noDone 200 ds = true) := hdo
  have hdm : dn ≤ 200 := by have h1 := hd.len.1; have h2 := (fits_mem hdo).1; omega
  clear ho hoa hoo hd hda hdo
  clear htid hns hnk hrs hrk
  have HB : Hid (Blk (w.alloc (.cells #[.int .i64 8, .int .u64 0, .int .i64 0, .string (⟨#[]⟩ : ByteArray), .bool false, .string (⟨#[]⟩ : ByteArray), .int .u64 0, .slice na 0 nc, .slice ra 0 rc, .slice ga 0 gc, .slice oa om oc, .slice da dn dc] 31)) w.heap.size #[.int .i64 8, .int .u64 0, .int .i64 0, .string (⟨#[]⟩ : ByteArray), .bool false, .string (⟨#[]⟩ : ByteArray), .int .u64 0, .slice na 0 nc, .slice ra 0 rc, .slice ga 0 gc, .slice oa om oc, .slice da dn dc] 31) := Blk.new _ _ _
  have HY : Hid (Below w.heap.size w (w.alloc (.cells #[.int .i64 8, .int .u64 0, .int .i64 0, .string (⟨#[]⟩ : ByteArray), .bool false, .string (⟨#[]⟩ : ByteArray), .int .u64 0, .slice na 0 nc, .slice ra 0 rc, .slice ga 0 gc, .slice oa om oc, .slice da dn dc] 31))) := (Below.refl _ _).alloc (Nat.le_refl _) _
  go_enter Tryz.func10, Tryz.ntmps10
  go_upto_region 1 with fail
  generalize (w.alloc (.cells #[.int .i64 8, .int .u64 0, .int .i64 0, .string (⟨#[]⟩ : ByteArray), .bool false, .string (⟨#[]⟩ : ByteArray), .int .u64 0, .slice na 0 nc, .slice ra 0 rc, .slice ga 0 gc, .slice oa om oc, .slice da dn dc] 31)) = w0 at *
  have z0 : w0.cell? ⟨w.heap.size, 0, none⟩ = some (.int .i64 8) := HB.out.cell 0
  have z1 : w0.cell? ⟨w.heap.size, 1, none⟩ = some (.int .u64 0) := HB.out.cell 1
  have z2 : w0.cell? ⟨w.heap.size, 2, none⟩ = some (.int .i64 0) := HB.out.cell 2
  have z3 : w0.cell? ⟨w.heap.size, 3, none⟩ = some (.string (⟨#[]⟩ : ByteArray)) := HB.out.cell 3
  have z4 : w0.cell? ⟨w.heap.size, 4, none⟩ = some (.bool false) := HB.out.cell 4
  have z5 : w0.cell? ⟨w.heap.size, 5, none⟩ = some (.string (⟨#[]⟩ : ByteArray)) := HB.out.cell 5
  have z6 : w0.cell? ⟨w.heap.size, 6, none⟩ = some (.int .u64 0) := HB.out.cell 6
  have z7 : w0.cell? ⟨w.heap.size, 7, none⟩ = some (.slice na 0 nc) := HB.out.cell 7
  have z8 : w0.cell? ⟨w.heap.size, 8, none⟩ = some (.slice ra 0 rc) := HB.out.cell 8
  have z9 : w0.cell? ⟨w.heap.size, 9, none⟩ = some (.slice ga 0 gc) := HB.out.cell 9
  have z10 : w0.cell? ⟨w.heap.size, 10, none⟩ = some (.slice oa om oc) := HB.out.cell 10
  have z11 : w0.cell? ⟨w.heap.size, 11, none⟩ = some (.slice da dn dc) := HB.out.cell 11
  go_wp2_with fail
  refine (tid_ok 0 0 w0 HTI.out).mono ?_
  rintro e w1 ⟨rfl, y⟩
  have HB' : Hid (Blk w1 w.heap.size #[.int .i64 8, .int .u64 0, .int .i64 0, .string (⟨#[]⟩ : ByteArray), .bool false, .string (⟨#[]⟩ : ByteArray), .int .u64 0, .slice na 0 nc, .slice ra 0 rc, .slice ga 0 gc, .slice oa om oc, .slice da dn dc] 31) := Blk.of HB.out (y.block _ HB.out.lt)
  have HY' : Hid (Below w.heap.size w w1) := ext_trans HY.out y
  clear HB HY y
  clear z0 z1 z2 z3 z4 z5 z6 z7 z8 z9 z10 z11
  have HB := HB'
  have HY := HY'
  clear HB' HY'
  have z0 : w1.cell? ⟨w.heap.size, 0, none⟩ = some (.int .i64 8) := HB.out.cell 0
  have z1 : w1.cell? ⟨w.heap.size, 1, none⟩ = some (.int .u64 0) := HB.out.cell 1
  have z2 : w1.cell? ⟨w.heap.size, 2, none⟩ = some (.int .i64 0) := HB.out.cell 2
  have z3 : w1.cell? ⟨w.heap.size, 3, none⟩ = some (.string (⟨#[]⟩ : ByteArray)) := HB.out.cell 3
  have z4 : w1.cell? ⟨w.heap.size, 4, none⟩ = some (.bool false) := HB.out.cell 4
  have z5 : w1.cell? ⟨w.heap.size, 5, none⟩ = some (.string (⟨#[]⟩ : ByteArray)) := HB.out.cell 5
  have z6 : w1.cell? ⟨w.heap.size, 6, none⟩ = some (.int .u64 0) := HB.out.cell 6
  have z7 : w1.cell? ⟨w.heap.size, 7, none⟩ = some (.slice na 0 nc) := HB.out.cell 7
  have z8 : w1.cell? ⟨w.heap.size, 8, none⟩ = some (.slice ra 0 rc) := HB.out.cell 8
  have z9 : w1.cell? ⟨w.heap.size, 9, none⟩ = some (.slice ga 0 gc) := HB.out.cell 9
  have z10 : w1.cell? ⟨w.heap.size, 10, none⟩ = some (.slice oa om oc) := HB.out.cell 10
  have z11 : w1.cell? ⟨w.heap.size, 11, none⟩ = some (.slice da dn dc) := HB.out.cell 11
  go_wp2_with fail
  refine (rising_ok _ ns w1 (HNS.out.1.below HY.out) HNS.out.2).mono ?_
  rintro e w2 ⟨rfl, y⟩
  have HB' : Hid (Blk w2 w.heap.size #[.int .i64 8, .int .u64 0, .int .i64 0, .string (⟨#[]⟩ : ByteArray), .bool false, .string (⟨#[]⟩ : ByteArray), .int .u64 0, .slice na 0 nc, .slice ra 0 rc, .slice ga 0 gc, .slice oa om oc, .slice da dn dc] 31) := Blk.of HB.out (y.block _ HB.out.lt)
  have HY' : Hid (Below w.heap.size w w2) := ext_trans HY.out y
  clear HB HY y
  clear z0 z1 z2 z3 z4 z5 z6 z7 z8 z9 z10 z11
  have HB := HB'
  have HY := HY'
  clear HB' HY'
  have z0 : w2.cell? ⟨w.heap.size, 0, none⟩ = some (.int .i64 8) := HB.out.cell 0
  have z1 : w2.cell? ⟨w.heap.size, 1, none⟩ = some (.int .u64 0) := HB.out.cell 1
  have z2 : w2.cell? ⟨w.heap.size, 2, none⟩ = some (.int .i64 0) := HB.out.cell 2
  have z3 : w2.cell? ⟨w.heap.size, 3, none⟩ = some (.string (⟨#[]⟩ : ByteArray)) := HB.out.cell 3
  have z4 : w2.cell? ⟨w.heap.size, 4, none⟩ = some (.bool false) := HB.out.cell 4
  have z5 : w2.cell? ⟨w.heap.size, 5, none⟩ = some (.string (⟨#[]⟩ : ByteArray)) := HB.out.cell 5
  have z6 : w2.cell? ⟨w.heap.size, 6, none⟩ = some (.int .u64 0) := HB.out.cell 6
  have z7 : w2.cell? ⟨w.heap.size, 7, none⟩ = some (.slice na 0 nc) := HB.out.cell 7
  have z8 : w2.cell? ⟨w.heap.size, 8, none⟩ = some (.slice ra 0 rc) := HB.out.cell 8
  have z9 : w2.cell? ⟨w.heap.size, 9, none⟩ = some (.slice ga 0 gc) := HB.out.cell 9
  have z10 : w2.cell? ⟨w.heap.size, 10, none⟩ = some (.slice oa om oc) := HB.out.cell 10
  have z11 : w2.cell? ⟨w.heap.size, 11, none⟩ = some (.slice da dn dc) := HB.out.cell 11
  go_wp2_with fail
  refine (keys_ok _ rs w2 (HRS.out.1.below HY.out) HRS.out.2).mono ?_
  rintro e w3 ⟨rfl, y⟩
  have HB' : Hid (Blk w3 w.heap.size #[.int .i64 8, .int .u64 0, .int .i64 0, .string (⟨#[]⟩ : ByteArray), .bool false, .string (⟨#[]⟩ : ByteArray), .int .u64 0, .slice na 0 nc, .slice ra 0 rc, .slice ga 0 gc, .slice oa om oc, .slice da dn dc] 31) := Blk.of HB.out (y.block _ HB.out.lt)
  have HY' : Hid (Below w.heap.size w w3) := ext_trans HY.out y
  clear HB HY y
  clear z0 z1 z2 z3 z4 z5 z6 z7 z8 z9 z10 z11
  have HB := HB'
  have HY := HY'
  clear HB' HY'
  have z0 : w3.cell? ⟨w.heap.size, 0, none⟩ = some (.int .i64 8) := HB.out.cell 0
  have z1 : w3.cell? ⟨w.heap.size, 1, none⟩ = some (.int .u64 0) := HB.out.cell 1
  have z2 : w3.cell? ⟨w.heap.size, 2, none⟩ = some (.int .i64 0) := HB.out.cell 2
  have z3 : w3.cell? ⟨w.heap.size, 3, none⟩ = some (.string (⟨#[]⟩ : ByteArray)) := HB.out.cell 3
  have z4 : w3.cell? ⟨w.heap.size, 4, none⟩ = some (.bool false) := HB.out.cell 4
  have z5 : w3.cell? ⟨w.heap.size, 5, none⟩ = some (.string (⟨#[]⟩ : ByteArray)) := HB.out.cell 5
  have z6 : w3.cell? ⟨w.heap.size, 6, none⟩ = some (.int .u64 0) := HB.out.cell 6
  have z7 : w3.cell? ⟨w.heap.size, 7, none⟩ = some (.slice na 0 nc) := HB.out.cell 7
  have z8 : w3.cell? ⟨w.heap.size, 8, none⟩ = some (.slice ra 0 rc) := HB.out.cell 8
  have z9 : w3.cell? ⟨w.heap.size, 9, none⟩ = some (.slice ga 0 gc) := HB.out.cell 9
  have z10 : w3.cell? ⟨w.heap.size, 10, none⟩ = some (.slice oa om oc) := HB.out.cell 10
  have z11 : w3.cell? ⟨w.heap.size, 11, none⟩ = some (.slice da dn dc) := HB.out.cell 11
  go_wp2
  clear z0 z1 z2 z3 z4 z5 z6 z7 z8 z9 z10 z11
  go_loopw [155] (fun i wr => i = .int .i64 0 ∧ Below w.heap.size w wr ∧ Blk wr w.heap.size #[.int .i64 8, .int .u64 0, .int .i64 0, .string (⟨#[]⟩ : ByteArray), .bool false, .string (⟨#[]⟩ : ByteArray), .int .u64 0, .slice na 0 nc, .slice ra 0 rc, .slice ga 0 gc, .slice oa om oc, .slice da dn dc] 31) (fun _ _ => 0)
  case atStart => exact ⟨rfl, HY.out, HB.out⟩
  case round =>
    obtain ⟨rfl, hy, hb⟩ := hrel
    clear HY HB
    have HY : Hid (Below w.heap.size w wr) := hy
    have HB : Hid (Blk wr w.heap.size #[.int .i64 8, .int .u64 0, .int .i64 0, .string (⟨#[]⟩ : ByteArray), .bool false, .string (⟨#[]⟩ : ByteArray), .int .u64 0, .slice na 0 nc, .slice ra 0 rc, .slice ga 0 gc, .slice oa om oc, .slice da dn dc] 31) := hb
    clear hy hb
    rename World => wa
    have z0 : wa.cell? ⟨w.heap.size, 0, none⟩ = some (.int .i64 8) := HB.out.cell 0
    have z1 : wa.cell? ⟨w.heap.size, 1, none⟩ = some (.int .u64 0) := HB.out.cell 1
    have z2 : wa.cell? ⟨w.heap.size, 2, none⟩ = some (.int .i64 0) := HB.out.cell 2
    have z3 : wa.cell? ⟨w.heap.size, 3, none⟩ = some (.string (⟨#[]⟩ : ByteArray)) := HB.out.cell 3
    have z4 : wa.cell? ⟨w.heap.size, 4, none⟩ = some (.bool false) := HB.out.cell 4
    have z5 : wa.cell? ⟨w.heap.size, 5, none⟩ = some (.string (⟨#[]⟩ : ByteArray)) := HB.out.cell 5
    have z6 : wa.cell? ⟨w.heap.size, 6, none⟩ = some (.int .u64 0) := HB.out.cell 6
    have z7 : wa.cell? ⟨w.heap.size, 7, none⟩ = some (.slice na 0 nc) := HB.out.cell 7
    have z8 : wa.cell? ⟨w.heap.size, 8, none⟩ = some (.slice ra 0 rc) := HB.out.cell 8
    have z9 : wa.cell? ⟨w.heap.size, 9, none⟩ = some (.slice ga 0 gc) := HB.out.cell 9
    have z10 : wa.cell? ⟨w.heap.size, 10, none⟩ = some (.slice oa om oc) := HB.out.cell 10
    have z11 : wa.cell? ⟨w.heap.size, 11, none⟩ = some (.slice da dn dc) := HB.out.cell 11
    go_wp2
    clear z0 z1 z2 z3 z4 z5 z6 z7 z8 z9 z10 z11
    go_loopw [194] (fun i wr => ∃ k : Nat, i = .int .i64 (k : Int) ∧ k ≤ om ∧ Below w.heap.size w wr ∧ Blk wr w.heap.size #[.int .i64 8, .int .u64 0, .int .i64 0, .string (⟨#[]⟩ : ByteArray), .bool false, .string (⟨#[]⟩ : ByteArray), .int .u64 0, .slice na 0 nc, .slice ra 0 rc, .slice ga 0 gc, .slice oa om oc, .slice da dn dc] 31) (fun i _ => om - (intOf i).toNat)
    case atStart => exact ⟨0, rfl, Nat.zero_le _, HY.out, HB.out⟩
    case round =>
      obtain ⟨k, rfl, hk, hy, hb⟩ := hrel
      clear HY HB
      have HY : Hid (Below w.heap.size w wr) := hy
      have HB : Hid (Blk wr w.heap.size #[.int .i64 8, .int .u64 0, .int .i64 0, .string (⟨#[]⟩ : ByteArray), .bool false, .string (⟨#[]⟩ : ByteArray), .int .u64 0, .slice na 0 nc, .slice ra 0 rc, .slice ga 0 gc, .slice oa om oc, .slice da dn dc] 31) := hb
      clear hy hb
      by_cases hlt : k < om
      · have hkl : k < os.length := by rw [← HO.out.len.1]; exact hlt
        have hi2 : (k : Int) < (om : Int) := by omega
        obtain ⟨ad, had⟩ := RowsN.adr HO.out (by omega)
        subst had
        have HH : Hid (RowsN wr 7 _ (.slice (some ad) _ _) os) := HO.out.below HY.out
        have e0 : wr.cell? (ad.add (k * 7)) = some _ := HH.out.at0 hkl rfl
        have e1 : wr.cell? ⟨(ad.add (k * 7)).block, (ad.add (k * 7)).off + 1, none⟩ = some _ := HH.out.atS hkl 0 rfl
        have e2 : wr.cell? ⟨(ad.add (k * 7)).block, (ad.add (k * 7)).off + 2, none⟩ = some _ := HH.out.atS hkl 1 rfl
        have e3 : wr.cell? ⟨(ad.add (k * 7)).block, (ad.add (k * 7)).off + 3, none⟩ = some _ := HH.out.atS hkl 2 rfl
        have e4 : wr.cell? ⟨(ad.add (k * 7)).block, (ad.add (k * 7)).off + 4, none⟩ = some _ := HH.out.atS hkl 3 rfl
        have e5 : wr.cell? ⟨(ad.add (k * 7)).block, (ad.add (k * 7)).off + 5, none⟩ = some _ := HH.out.atS hkl 4 rfl
        have e6 : wr.cell? ⟨(ad.add (k * 7)).block, (ad.add (k * 7)).off + 6, none⟩ = some _ := HH.out.atS hkl 5 rfl
        obtain ⟨hr1, hr2⟩ := fits_at HOO.out hkl
        have HR1 : Hid (_ = true) := hr1
        have HR2 : Hid (∀ j (hj : j < os.length), k = j + 1 → _ = true) := hr2
        have HQA : Hid (os[k].At w) := HOA.out _ (List.getElem_mem hkl)
        clear hr1 hr2
        generalize os[k] = q at *
        have HY' : Hid (Below w.heap.size w (wr.alloc (.cells #[.int .u64 q.num, .int .i64 q.node, .int .u64 q.last, .int .u64 q.first, .int .i64 q.count, .bool q.ready, .slice q.ra q.rn q.rc] 45))) := HY.out.alloc HY.out.size _
        have HB' : Hid (Blk (wr.alloc (.cells #[.int .u64 q.num, .int .i64 q.node, .int .u64 q.last, .int .u64 q.first, .int .i64 q.count, .bool q.ready, .slice q.ra q.rn q.rc] 45)) w.heap.size #[.int .i64 8, .int .u64 0, .int .i64 0, .string (⟨#[]⟩ : ByteArray), .bool false, .string (⟨#[]⟩ : ByteArray), .int .u64 0, .slice na 0 nc, .slice ra 0 rc, .slice ga 0 gc, .slice (some ad) om oc, .slice da dn dc] 31) := HB.out.alloc _
        have HQ : Hid (Blk (wr.alloc (.cells #[.int .u64 q.num, .int .i64 q.node, .int .u64 q.last, .int .u64 q.first, .int .i64 q.count, .bool q.ready, .slice q.ra q.rn q.rc] 45)) wr.heap.size #[.int .u64 q.num, .int .i64 q.node, .int .u64 q.last, .int .u64 q.first, .int .i64 q.count, .bool q.ready, .slice q.ra q.rn q.rc] 45) := Blk.new _ _ _
        have HH' : Hid (RowsN (wr.alloc (.cells #[.int .u64 q.num, .int .i64 q.node, .int .u64 q.last, .int .u64 q.first, .int .i64 q.count, .bool q.ready, .slice q.ra q.rn q.rc] 45)) 7 _ (.slice (some ad) _ _) os) := HH.out.below (below_allocR _)
        go_upto_region 19 with fail
        clear e0 e1 e2 e3 e4 e5 e6 HH HY HB
        generalize (wr.alloc (.cells #[.int .u64 q.num, .int .i64 q.node, .int .u64 q.last, .int .u64 q.first, .int .i64 q.count, .bool q.ready, .slice q.ra q.rn q.rc] 45)) = y0 at *
        obtain ⟨b, hbb⟩ : ∃ b, wr.heap.size = b := ⟨_, rfl⟩
        rw [hbb] at HQ ⊢
        clear hbb
        rcases (show k = 0 ∨ ∃ m, k = m + 1 from by cases k; exact .inl rfl; exact .inr ⟨_, rfl⟩) with hk0 | ⟨m, hm⟩
        · have hk1 : ¬ 0 < k := by omega
          have hk2 : ¬ (0 : Int) < (k : Int) := by omega
          have hk5 : decide ((0 : Int) < (k : Int)) = false := decide_eq_false hk2
          clear HR2 HH' hk0
          obtain ⟨hp1, hp2⟩ := open_parts HR1.out
          have htk : tidOk q.num q.node = true := by
            have h := HR1.out
            unfold openOk at h
            simp only [Bool.and_eq_true] at h
            exact h.1.1.1.1.1
          have HTK : Hid (tidOk q.num q.node = true) := htk
          have HRK : Hid (readsOk q.rs = true) := hp2
          have ha1 : ¬ 4611686018427387904 < q.last := by omega
          have ha2 : ¬ 4611686018427387904 < q.first := by omega
          have ha3 : ¬ q.count < 0 := by omega
          have ha4 : ¬ 1073741824 < q.count := by omega
          clear htk hp1 hp2
          refine wp_region_ext (by kernel_rfl) ?_
          haveI nA := cls_ext y0.drew
          have u0 := cellX (W0 := y0.drew) (show y0.drew.cell? ⟨b, 0, none⟩ = some (.int .u64 q.num) from (Blk.of HQ.out ((Below.drew (Below.refl _ y0)).block _ HQ.out.lt)).cell 0)
          have u1 := cellX (W0 := y0.drew) (show y0.drew.cell? ⟨b, 1, none⟩ = some (.int .i64 q.node) from (Blk.of HQ.out ((Below.drew (Below.refl _ y0)).block _ HQ.out.lt)).cell 1)
          have u2 := cellX (W0 := y0.drew) (show y0.drew.cell? ⟨b, 2, none⟩ = some (.int .u64 q.last) from (Blk.of HQ.out ((Below.drew (Below.refl _ y0)).block _ HQ.out.lt)).cell 2)
          have u3 := cellX (W0 := y0.drew) (show y0.drew.cell? ⟨b, 3, none⟩ = some (.int .u64 q.first) from (Blk.of HQ.out ((Below.drew (Below.refl _ y0)).block _ HQ.out.lt)).cell 3)
          have u4 := cellX (W0 := y0.drew) (show y0.drew.cell? ⟨b, 4, none⟩ = some (.int .i64 q.count) from (Blk.of HQ.out ((Below.drew (Below.refl _ y0)).block _ HQ.out.lt)).cell 4)
          have u5 := cellX (W0 := y0.drew) (show y0.drew.cell? ⟨b, 5, none⟩ = some (.bool q.ready) from (Blk.of HQ.out ((Below.drew (Below.refl _ y0)).block _ HQ.out.lt)).cell 5)
          have u6 := cellX (W0 := y0.drew) (show y0.drew.cell? ⟨b, 6, none⟩ = some (.slice q.ra q.rn q.rc) from (Blk.of HQ.out ((Below.drew (Below.refl _ y0)).block _ HQ.out.lt)).cell 6)
          have HYr : Hid (Below y0.heap.size y0 y0.drew) := Below.drew (Below.refl _ _)
          refine wpAnyH_seg (by kernel_rfl) (fun _ _ _ h => h) [0, 1] 45 _ _ _ (Ext.refl _) (by kernel_rfl) ?_
          simp only [opsAt, List.getElem?_toArray, List.getElem?_cons_zero, List.getElem?_cons_succ, List.cons_append, List.nil_append]
          repeat (go_big_quiet_step (fail))
          refine wpQuiet_nil ?_
          clear nA u0 u1 u2 u3 u4 u5 u6
          refine wpAnyH_callE (i := 2) (fuel := 44) 201 rfl (by kernel_rfl) rfl (Ext.refl _) (by kernel_rfl) (f := 22) (args := #[.agg #[.int .u64 q.num, .int .i64 q.node]]) (by kernel_rfl) (tid_ok q.num q.node y0.drew HTK.out) ?_
          rintro e x1 ⟨rfl, y⟩
          refine ⟨_, rfl, y, ?_⟩
          have HYr' : Hid (Below y0.heap.size y0 x1) := ext_trans HYr.out y
          clear HYr y
          have HYr := HYr'
          clear HYr'
          simp only [Act.put, List.setIfInBounds_toArray, List.set_cons_succ, List.set_cons_zero]
          haveI nA := cls_ext x1
          have u0 := cellX (W0 := x1) (show x1.cell? ⟨b, 0, none⟩ = some (.int .u64 q.num) from (Blk.of HQ.out (HYr.out.block _ HQ.out.lt)).cell 0)
          have u1 := cellX (W0 := x1) (show x1.cell? ⟨b, 1, none⟩ = some (.int .i64 q.node) from (Blk.of HQ.out (HYr.out.block _ HQ.out.lt)).cell 1)
          have u2 := cellX (W0 := x1) (show x1.cell? ⟨b, 2, none⟩ = some (.int .u64 q.last) from (Blk.of HQ.out (HYr.out.block _ HQ.out.lt)).cell 2)
          have u3 := cellX (W0 := x1) (show x1.cell? ⟨b, 3, none⟩ = some (.int .u64 q.first) from (Blk.of HQ.out (HYr.out.block _ HQ.out.lt)).cell 3)
          have u4 := cellX (W0 := x1) (show x1.cell? ⟨b, 4, none⟩ = some (.int .i64 q.count) from (Blk.of HQ.out (HYr.out.block _ HQ.out.lt)).cell 4)
          have u5 := cellX (W0 := x1) (show x1.cell? ⟨b, 5, none⟩ = some (.bool q.ready) from (Blk.of HQ.out (HYr.out.block _ HQ.out.lt)).cell 5)
          have u6 := cellX (W0 := x1) (show x1.cell? ⟨b, 6, none⟩ = some (.slice q.ra q.rn q.rc) from (Blk.of HQ.out (HYr.out.block _ HQ.out.lt)).cell 6)
          refine wpAnyH_seg (by kernel_rfl) (fun _ _ _ h => h) [3, 4, 5, 6, 7, 8, 9, 10, 11, 12, 13, 14, 15, 16, 17, 18, 19, 20, 21, 22, 23, 24, 25, 26] 20 _ _ _ (Ext.refl _) (by kernel_rfl) ?_
          simp only [opsAt, List.getElem?_toArray, List.getElem?_cons_zero, List.getElem?_cons_succ, List.cons_append, List.nil_append]
          repeat (go_big_quiet_step (fail))
          refine wpQuiet_nil ?_
          clear nA u0 u1 u2 u3 u4 u5 u6
          refine wpAnyH_callE (i := 27) (fuel := 19) 226 rfl (by kernel_rfl) rfl (Ext.refl _) (by kernel_rfl) (f := 24) (args := #[.slice q.ra q.rn q.rc]) (by kernel_rfl) (keys_ok _ q.rs x1 ((HQA.out.below HY'.out).below HYr.out).rd HRK.out) ?_
          rintro e x2 ⟨rfl, y⟩
          refine ⟨_, rfl, y, ?_⟩
          have HYr' : Hid (Below y0.heap.size y0 x2) := ext_trans HYr.out y
          clear HYr y
          have HYr := HYr'
          clear HYr'
          simp only [Act.put, List.setIfInBounds_toArray, List.set_cons_succ, List.set_cons_zero]
          haveI nA := cls_ext x2
          have u0 := cellX (W0 := x2) (show x2.cell? ⟨b, 0, none⟩ = some (.int .u64 q.num) from (Blk.of HQ.out (HYr.out.block _ HQ.out.lt)).cell 0)
          have u1 := cellX (W0 := x2) (show x2.cell? ⟨b, 1, none⟩ = some (.int .i64 q.node) from (Blk.of HQ.out (HYr.out.block _ HQ.out.lt)).cell 1)
          have u2 := cellX (W0 := x2) (show x2.cell? ⟨b, 2, none⟩ = some (.int .u64 q.last) from (Blk.of HQ.out (HYr.out.block _ HQ.out.lt)).cell 2)
          have u3 := cellX (W0 := x2) (show x2.cell? ⟨b, 3, none⟩ = some (.int .u64 q.first) from (Blk.of HQ.out (HYr.out.block _ HQ.out.lt)).cell 3)
          have u4 := cellX (W0 := x2) (show x2.cell? ⟨b, 4, none⟩ = some (.int .i64 q.count) from (Blk.of HQ.out (HYr.out.block _ HQ.out.lt)).cell 4)
          have u5 := cellX (W0 := x2) (show x2.cell? ⟨b, 5, none⟩ = some (.bool q.ready) from (Blk.of HQ.out (HYr.out.block _ HQ.out.lt)).cell 5)
          have u6 := cellX (W0 := x2) (show x2.cell? ⟨b, 6, none⟩ = some (.slice q.ra q.rn q.rc) from (Blk.of HQ.out (HYr.out.block _ HQ.out.lt)).cell 6)
          refine wpAnyH_seg (by kernel_rfl) (fun _ _ _ h => h) [28, 29, 30, 31, 32, 33, 34, 35, 36, 37, 38, 39, 40, 41, 42] 4 _ _ _ (Ext.refl _) (by kernel_rfl) ?_
          simp only [opsAt, List.getElem?_toArray, List.getElem?_cons_zero, List.getElem?_cons_succ, List.cons_append, List.nil_append]
          repeat (go_big_quiet_step (fail))
          refine wpQuiet_nil ?_
          refine wpAnyH_all (rs := [43]) (fuel := 3) (by kernel_rfl) (by simp) fun j0 hj0 => ?_
          obtain rfl : j0 = 43 := by simpa using hj0
          clear hj0
          refine wpOp_skip 242 rfl (by kernel_rfl) rfl ?_
          refine ⟨Ext.refl _, ?_⟩
          simp only [Act.put, List.setIfInBounds_toArray, List.set_cons_succ, List.set_cons_zero]
          refine wpAnyH_seg (by kernel_rfl) (fun _ _ _ h => h) [44, 45, 46] 0 _ _ _ (Ext.refl _) (by kernel_rfl) ?_
          simp only [opsAt, List.getElem?_toArray, List.getElem?_cons_zero, List.getElem?_cons_succ, List.cons_append, List.nil_append]
          repeat (go_big_quiet_step (fail))
          refine wpQuiet_nil ?_
          clear nA u0 u1 u2 u3 u4 u5 u6
          refine wpAnyH_done (by kernel_rfl) (NoPanic.normal ?_) 0
          have HYZ : Hid (Below w.heap.size w x2) := ext_trans HY'.out HYr.out
          have HBZ : Hid (Blk x2 w.heap.size #[.int .i64 8, .int .u64 0, .int .i64 0, .string (⟨#[]⟩ : ByteArray), .bool false, .string (⟨#[]⟩ : ByteArray), .int .u64 0, .slice na 0 nc, .slice ra 0 rc, .slice ga 0 gc, .slice (some ad) om oc, .slice da dn dc] 31) := Blk.of HB'.out (HYr.out.block _ HB'.out.lt)
          go_wp2
          go_roundw
          case rel => exact ⟨k + 1, by go_num, by omega, HYZ.out, HBZ.out⟩
          case measure => simp [intOf]; omega
        · have hml : m < os.length := by omega
          have HA2 : Hid (_ = true) := HR2.out m hml hm
          have hk1 : 0 < k := by omega
          have hk2 : (0 : Int) < (k : Int) := by omega
          have hk5 : decide ((0 : Int) < (k : Int)) = true := decide_eq_true hk2
          have hk3 : (k : Int) - 1 = (m : Int) := by omega
          have hk4 : m < om := by omega
          have HM0 : Hid (∀ W, Below y0.heap.size y0 W → W.cell? (ad.add (m * 7)) = some (.int .u64 os[m].num)) := fun W hW => (HH'.out.below hW).at0 hml rfl
          have HM1 : Hid (∀ W, Below y0.heap.size y0 W → W.cell? ⟨(ad.add (m * 7)).block, (ad.add (m * 7)).off + 1, none⟩ = some (.int .i64 os[m].node)) := fun W hW => (HH'.out.below hW).atS hml 0 rfl
          clear HH'
          obtain ⟨hp1, hp2⟩ := open_parts HR1.out
          have htk : tidOk q.num q.node = true := by
            have h := HR1.out
            unfold openOk at h
            simp only [Bool.and_eq_true] at h
            exact h.1.1.1.1.1
          have HTK : Hid (tidOk q.num q.node = true) := htk
          have HRK : Hid (readsOk q.rs = true) := hp2
          have ha1 : ¬ 4611686018427387904 < q.last := by omega
          have ha2 : ¬ 4611686018427387904 < q.first := by omega
          have ha3 : ¬ q.count < 0 := by omega
          have ha4 : ¬ 1073741824 < q.count := by omega
          clear htk hp1 hp2
          have HEL : Hid (elderT (os[m]).num (os[m]).node q.num q.node = true) := HA2.out
          generalize os[m] = m0 at *
          clear HR2 hm hml
          refine wp_region_ext (by kernel_rfl) ?_
          haveI nA := cls_ext y0.drew
          have u0 := cellX (W0 := y0.drew) (show y0.drew.cell? ⟨b, 0, none⟩ = some (.int .u64 q.num) from (Blk.of HQ.out ((Below.drew (Below.refl _ y0)).block _ HQ.out.lt)).cell 0)
          have u1 := cellX (W0 := y0.drew) (show y0.drew.cell? ⟨b, 1, none⟩ = some (.int .i64 q.node) from (Blk.of HQ.out ((Below.drew (Below.refl _ y0)).block _ HQ.out.lt)).cell 1)
          have u2 := cellX (W0 := y0.drew) (show y0.drew.cell? ⟨b, 2, none⟩ = some (.int .u64 q.last) from (Blk.of HQ.out ((Below.drew (Below.refl _ y0)).block _ HQ.out.lt)).cell 2)
          have u3 := cellX (W0 := y0.drew) (show y0.drew.cell? ⟨b, 3, none⟩ = some (.int .u64 q.first) from (Blk.of HQ.out ((Below.drew (Below.refl _ y0)).block _ HQ.out.lt)).cell 3)
          have u4 := cellX (W0 := y0.drew) (show y0.drew.cell? ⟨b, 4, none⟩ = some (.int .i64 q.count) from (Blk.of HQ.out ((Below.drew (Below.refl _ y0)).block _ HQ.out.lt)).cell 4)
          have u5 := cellX (W0 := y0.drew) (show y0.drew.cell? ⟨b, 5, none⟩ = some (.bool q.ready) from (Blk.of HQ.out ((Below.drew (Below.refl _ y0)).block _ HQ.out.lt)).cell 5)
          have u6 := cellX (W0 := y0.drew) (show y0.drew.cell? ⟨b, 6, none⟩ = some (.slice q.ra q.rn q.rc) from (Blk.of HQ.out ((Below.drew (Below.refl _ y0)).block _ HQ.out.lt)).cell 6)
          have p9 := cellX (W0 := y0.drew) (show y0.drew.cell? ⟨w.heap.size, 10, none⟩ = some (.slice (some ad) om oc) from (Blk.of HB'.out ((Below.drew (Below.refl _ y0)).block _ HB'.out.lt)).cell 10)
          have m9 := cellX (W0 := y0.drew) (HM0.out _ (Below.drew (Below.refl _ y0)))
          have m8 := cellX (W0 := y0.drew) (HM1.out _ (Below.drew (Below.refl _ y0)))
          have HYr : Hid (Below y0.heap.size y0 y0.drew) := Below.drew (Below.refl _ _)
          refine wpAnyH_seg (by kernel_rfl) (fun _ _ _ h => h) [0, 1] 45 _ _ _ (Ext.refl _) (by kernel_rfl) ?_
          simp only [opsAt, List.getElem?_toArray, List.getElem?_cons_zero, List.getElem?_cons_succ, List.cons_append, List.nil_append]
          repeat (go_big_quiet_step (fail))
          refine wpQuiet_nil ?_
          clear nA u0 u1 u2 u3 u4 u5 u6 p9 m9 m8
          refine wpAnyH_callE (i := 2) (fuel := 44) 201 rfl (by kernel_rfl) rfl (Ext.refl _) (by kernel_rfl) (f := 22) (args := #[.agg #[.int .u64 q.num, .int .i64 q.node]]) (by kernel_rfl) (tid_ok q.num q.node y0.drew HTK.out) ?_
          rintro e x1 ⟨rfl, y⟩
          refine ⟨_, rfl, y, ?_⟩
          have HYr' : Hid (Below y0.heap.size y0 x1) := ext_trans HYr.out y
          clear HYr y
          have HYr := HYr'
          clear HYr'
          simp only [Act.put, List.setIfInBounds_toArray, List.set_cons_succ, List.set_cons_zero]
          haveI nA := cls_ext x1
          have u0 := cellX (W0 := x1) (show x1.cell? ⟨b, 0, none⟩ = some (.int .u64 q.num) from (Blk.of HQ.out (HYr.out.block _ HQ.out.lt)).cell 0)
          have u1 := cellX (W0 := x1) (show x1.cell? ⟨b, 1, none⟩ = some (.int .i64 q.node) from (Blk.of HQ.out (HYr.out.block _ HQ.out.lt)).cell 1)
          have u2 := cellX (W0 := x1) (show x1.cell? ⟨b, 2, none⟩ = some (.int .u64 q.last) from (Blk.of HQ.out (HYr.out.block _ HQ.out.lt)).cell 2)
          have u3 := cellX (W0 := x1) (show x1.cell? ⟨b, 3, none⟩ = some (.int .u64 q.first) from (Blk.of HQ.out (HYr.out.block _ HQ.out.lt)).cell 3)
          have u4 := cellX (W0 := x1) (show x1.cell? ⟨b, 4, none⟩ = some (.int .i64 q.count) from (Blk.of HQ.out (HYr.out.block _ HQ.out.lt)).cell 4)
          have u5 := cellX (W0 := x1) (show x1.cell? ⟨b, 5, none⟩ = some (.bool q.ready) from (Blk.of HQ.out (HYr.out.block _ HQ.out.lt)).cell 5)
          have u6 := cellX (W0 := x1) (show x1.cell? ⟨b, 6, none⟩ = some (.slice q.ra q.rn q.rc) from (Blk.of HQ.out (HYr.out.block _ HQ.out.lt)).cell 6)
          have p9 := cellX (W0 := x1) (show x1.cell? ⟨w.heap.size, 10, none⟩ = some (.slice (some ad) om oc) from (Blk.of HB'.out (HYr.out.block _ HB'.out.lt)).cell 10)
          have m9 := cellX (W0 := x1) (HM0.out _ HYr.out)
          have m8 := cellX (W0 := x1) (HM1.out _ HYr.out)
          refine wpAnyH_seg (by kernel_rfl) (fun _ _ _ h => h) [3, 4, 5, 6, 7, 8, 9, 10, 11, 12, 13, 14, 15, 16, 17, 18, 19, 20, 21, 22, 23, 24, 25, 26] 20 _ _ _ (Ext.refl _) (by kernel_rfl) ?_
          simp only [opsAt, List.getElem?_toArray, List.getElem?_cons_zero, List.getElem?_cons_succ, List.cons_append, List.nil_append]
          repeat (go_big_quiet_step (fail))
          refine wpQuiet_nil ?_
          clear nA u0 u1 u2 u3 u4 u5 u6 p9 m9 m8
          refine wpAnyH_callE (i := 27) (fuel := 19) 226 rfl (by kernel_rfl) rfl (Ext.refl _) (by kernel_rfl) (f := 24) (args := #[.slice q.ra q.rn q.rc]) (by kernel_rfl) (keys_ok _ q.rs x1 ((HQA.out.below HY'.out).below HYr.out).rd HRK.out) ?_
          rintro e x2 ⟨rfl, y⟩
          refine ⟨_, rfl, y, ?_⟩
          have HYr' : Hid (Below y0.heap.size y0 x2) := ext_trans HYr.out y
          clear HYr y
          have HYr := HYr'
          clear HYr'
          simp only [Act.put, List.setIfInBounds_toArray, List.set_cons_succ, List.set_cons_zero]
          haveI nA := cls_ext x2
          have u0 := cellX (W0 := x2) (show x2.cell? ⟨b, 0, none⟩ = some (.int .u64 q.num) from (Blk.of HQ.out (HYr.out.block _ HQ.out.lt)).cell 0)
          have u1 := cellX (W0 := x2) (show x2.cell? ⟨b, 1, none⟩ = some (.int .i64 q.node) from (Blk.of HQ.out (HYr.out.block _ HQ.out.lt)).cell 1)
          have u2 := cellX (W0 := x2) (show x2.cell? ⟨b, 2, none⟩ = some (.int .u64 q.last) from (Blk.of HQ.out (HYr.out.block _ HQ.out.lt)).cell 2)
          have u3 := cellX (W0 := x2) (show x2.cell? ⟨b, 3, none⟩ = some (.int .u64 q.first) from (Blk.of HQ.out (HYr.out.block _ HQ.out.lt)).cell 3)
          have u4 := cellX (W0 := x2) (show x2.cell? ⟨b, 4, none⟩ = some (.int .i64 q.count) from (Blk.of HQ.out (HYr.out.block _ HQ.out.lt)).cell 4)
          have u5 := cellX (W0 := x2) (show x2.cell? ⟨b, 5, none⟩ = some (.bool q.ready) from (Blk.of HQ.out (HYr.out.block _ HQ.out.lt)).cell 5)
          have u6 := cellX (W0 := x2) (show x2.cell? ⟨b, 6, none⟩ = some (.slice q.ra q.rn q.rc) from (Blk.of HQ.out (HYr.out.block _ HQ.out.lt)).cell 6)
          have p9 := cellX (W0 := x2) (show x2.cell? ⟨w.heap.size, 10, none⟩ = some (.slice (some ad) om oc) from (Blk.of HB'.out (HYr.out.block _ HB'.out.lt)).cell 10)
          have m9 := cellX (W0 := x2) (HM0.out _ HYr.out)
          have m8 := cellX (W0 := x2) (HM1.out _ HYr.out)
          refine wpAnyH_seg (by kernel_rfl) (fun _ _ _ h => h) [28, 29, 30, 31, 32, 33, 34, 35, 36, 37, 38, 39, 40, 41, 42] 4 _ _ _ (Ext.refl _) (by kernel_rfl) ?_
          simp only [opsAt, List.getElem?_toArray, List.getElem?_cons_zero, List.getElem?_cons_succ, List.cons_append, List.nil_append]
          repeat (go_big_quiet_step (fail))
          refine wpQuiet_nil ?_
          clear nA u0 u1 u2 u3 u4 u5 u6 p9 m9 m8
          refine wpAnyH_callE (i := 43) (fuel := 3) 242 rfl (by kernel_rfl) rfl (Ext.refl _) (by kernel_rfl) (f := 26) (args := #[.agg #[.int .u64 m0.num, .int .i64 m0.node], .agg #[.int .u64 q.num, .int .i64 q.node]]) (by kernel_rfl) (elder_ok m0.num m0.node q.num q.node x2 HEL.out) ?_
          rintro e x3 ⟨rfl, y⟩
          refine ⟨_, rfl, y, ?_⟩
          have HYr' : Hid (Below y0.heap.size y0 x3) := ext_trans HYr.out y
          clear HYr y
          have HYr := HYr'
          clear HYr'
          simp only [Act.put, List.setIfInBounds_toArray, List.set_cons_succ, List.set_cons_zero]
          haveI nA := cls_ext x3
          have u0 := cellX (W0 := x3) (show x3.cell? ⟨b, 0, none⟩ = some (.int .u64 q.num) from (Blk.of HQ.out (HYr.out.block _ HQ.out.lt)).cell 0)
          have u1 := cellX (W0 := x3) (show x3.cell? ⟨b, 1, none⟩ = some (.int .i64 q.node) from (Blk.of HQ.out (HYr.out.block _ HQ.out.lt)).cell 1)
          have u2 := cellX (W0 := x3) (show x3.cell? ⟨b, 2, none⟩ = some (.int .u64 q.last) from (Blk.of HQ.out (HYr.out.block _ HQ.out.lt)).cell 2)
          have u3 := cellX (W0 := x3) (show x3.cell? ⟨b, 3, none⟩ = some (.int .u64 q.first) from (Blk.of HQ.out (HYr.out.block _ HQ.out.lt)).cell 3)
          have u4 := cellX (W0 := x3) (show x3.cell? ⟨b, 4, none⟩ = some (.int .i64 q.count) from (Blk.of HQ.out (HYr.out.block _ HQ.out.lt)).cell 4)
          have u5 := cellX (W0 := x3) (show x3.cell? ⟨b, 5, none⟩ = some (.bool q.ready) from (Blk.of HQ.out (HYr.out.block _ HQ.out.lt)).cell 5)
          have u6 := cellX (W0 := x3) (show x3.cell? ⟨b, 6, none⟩ = some (.slice q.ra q.rn q.rc) from (Blk.of HQ.out (HYr.out.block _ HQ.out.lt)).cell 6)
          have p9 := cellX (W0 := x3) (show x3.cell? ⟨w.heap.size, 10, none⟩ = some (.slice (some ad) om oc) from (Blk.of HB'.out (HYr.out.block _ HB'.out.lt)).cell 10)
          have m9 := cellX (W0 := x3) (HM0.out _ HYr.out)
          have m8 := cellX (W0 := x3) (HM1.out _ HYr.out)
          refine wpAnyH_seg (by kernel_rfl) (fun _ _ _ h => h) [44, 45, 46] 0 _ _ _ (Ext.refl _) (by kernel_rfl) ?_
          simp only [opsAt, List.getElem?_toArray, List.getElem?_cons_zero, List.getElem?_cons_succ, List.cons_append, List.nil_append]
          repeat (go_big_quiet_step (fail))
          refine wpQuiet_nil ?_
          clear nA u0 u1 u2 u3 u4 u5 u6 p9 m9 m8
          refine wpAnyH_done (by kernel_rfl) (NoPanic.normal ?_) 0
          have HYZ : Hid (Below w.heap.size w x3) := ext_trans HY'.out HYr.out
          have HBZ : Hid (Blk x3 w.heap.size #[.int .i64 8, .int .u64 0, .int .i64 0, .string (⟨#[]⟩ : ByteArray), .bool false, .string (⟨#[]⟩ : ByteArray), .int .u64 0, .slice na 0 nc, .slice ra 0 rc, .slice ga 0 gc, .slice (some ad) om oc, .slice da dn dc] 31) := Blk.of HB'.out (HYr.out.block _ HB'.out.lt)
          go_wp2
          go_roundw
          case rel => exact ⟨k + 1, by go_num, by omega, HYZ.out, HBZ.out⟩
          case measure => simp [intOf]; omega
      · clear hk
        rename World => wb
        have z0 : wb.cell? ⟨w.heap.size, 0, none⟩ = some (.int .i64 8) := HB.out.cell 0
        have z1 : wb.cell? ⟨w.heap.size, 1, none⟩ = some (.int .u64 0) := HB.out.cell 1
        have z2 : wb.cell? ⟨w.heap.size, 2, none⟩ = some (.int .i64 0) := HB.out.cell 2
        have z3 : wb.cell? ⟨w.heap.size, 3, none⟩ = some (.string (⟨#[]⟩ : ByteArray)) := HB.out.cell 3
        have z4 : wb.cell? ⟨w.heap.size, 4, none⟩ = some (.bool false) := HB.out.cell 4
        have z5 : wb.cell? ⟨w.heap.size, 5, none⟩ = some (.string (⟨#[]⟩ : ByteArray)) := HB.out.cell 5
        have z6 : wb.cell? ⟨w.heap.size, 6, none⟩ = some (.int .u64 0) := HB.out.cell 6
        have z7 : wb.cell? ⟨w.heap.size, 7, none⟩ = some (.slice na 0 nc) := HB.out.cell 7
        have z8 : wb.cell? ⟨w.heap.size, 8, none⟩ = some (.slice ra 0 rc) := HB.out.cell 8
        have z9 : wb.cell? ⟨w.heap.size, 9, none⟩ = some (.slice ga 0 gc) := HB.out.cell 9
        have z10 : wb.cell? ⟨w.heap.size, 10, none⟩ = some (.slice oa om oc) := HB.out.cell 10
        have z11 : wb.cell? ⟨w.heap.size, 11, none⟩ = some (.slice da dn dc) := HB.out.cell 11
        go_wp2
        clear z0 z1 z2 z3 z4 z5 z6 z7 z8 z9 z10 z11
        go_loopw [250] (fun i wr => ∃ k : Nat, i = .int .i64 (k : Int) ∧ k ≤ dn ∧ Below w.heap.size w wr ∧ Blk wr w.heap.size #[.int .i64 8, .int .u64 0, .int .i64 0, .string (⟨#[]⟩ : ByteArray), .bool false, .string (⟨#[]⟩ : ByteArray), .int .u64 0, .slice na 0 nc, .slice ra 0 rc, .slice ga 0 gc, .slice oa om oc, .slice da dn dc] 31) (fun i _ => dn - (intOf i).toNat)
        case atStart => exact ⟨0, rfl, Nat.zero_le _, HY.out, HB.out⟩
        case round =>
          obtain ⟨k, rfl, hk, hy, hb⟩ := hrel
          clear HY HB
          have HY : Hid (Below w.heap.size w wr) := hy
          have HB : Hid (Blk wr w.heap.size #[.int .i64 8, .int .u64 0, .int .i64 0, .string (⟨#[]⟩ : ByteArray), .bool false, .string (⟨#[]⟩ : ByteArray), .int .u64 0, .slice na 0 nc, .slice ra 0 rc, .slice ga 0 gc, .slice oa om oc, .slice da dn dc] 31) := hb
          clear hy hb
          by_cases hlt : k < dn
          · have hkl : k < ds.length := by rw [← HD.out.len.1]; exact hlt
            have hi2 : (k : Int) < (dn : Int) := by omega
            obtain ⟨ad, had⟩ := RowsN.adr HD.out (by omega)
            subst had
            have HH : Hid (RowsN wr 3 _ (.slice (some ad) _ _) ds) := HD.out.below HY.out
            have e0 : wr.cell? (ad.add (k * 3)) = some _ := HH.out.at0 hkl rfl
            have e1 : wr.cell? ⟨(ad.add (k * 3)).block, (ad.add (k * 3)).off + 1, none⟩ = some _ := HH.out.atS hkl 0 rfl
            have e2 : wr.cell? ⟨(ad.add (k * 3)).block, (ad.add (k * 3)).off + 2, none⟩ = some _ := HH.out.atS hkl 1 rfl
            obtain ⟨hr1, hr2⟩ := fits_at HDO.out hkl
            have HR1 : Hid (_ = true) := hr1
            have HR2 : Hid (∀ j (hj : j < ds.length), k = j + 1 → _ = true) := hr2
            have HQA : Hid (ds[k].At w) := HDA.out _ (List.getElem_mem hkl)
            clear hr1 hr2
            generalize ds[k] = q at *
            have HY' : Hid (Below w.heap.size w (wr.alloc (.cells #[.int .u64 q.num, .int .i64 q.node, .slice q.na q.nn q.nc] 51))) := HY.out.alloc HY.out.size _
            have HB' : Hid (Blk (wr.alloc (.cells #[.int .u64 q.num, .int .i64 q.node, .slice q.na q.nn q.nc] 51)) w.heap.size #[.int .i64 8, .int .u64 0, .int .i64 0, .string (⟨#[]⟩ : ByteArray), .bool false, .string (⟨#[]⟩ : ByteArray), .int .u64 0, .slice na 0 nc, .slice ra 0 rc, .slice ga 0 gc, .slice oa om oc, .slice (some ad) dn dc] 31) := HB.out.alloc _
            have HQ : Hid (Blk (wr.alloc (.cells #[.int .u64 q.num, .int .i64 q.node, .slice q.na q.nn q.nc] 51)) wr.heap.size #[.int .u64 q.num, .int .i64 q.node, .slice q.na q.nn q.nc] 51) := Blk.new _ _ _
            have HH' : Hid (RowsN (wr.alloc (.cells #[.int .u64 q.num, .int .i64 q.node, .slice q.na q.nn q.nc] 51)) 3 _ (.slice (some ad) _ _) ds) := HH.out.below (below_allocR _)
            go_upto_region 25 with fail
            clear e0 e1 e2 HH HY HB
            generalize (wr.alloc (.cells #[.int .u64 q.num, .int .i64 q.node, .slice q.na q.nn q.nc] 51)) = y0 at *
            obtain ⟨b, hbb⟩ : ∃ b, wr.heap.size = b := ⟨_, rfl⟩
            rw [hbb] at HQ ⊢
            clear hbb
            rcases (show k = 0 ∨ ∃ m, k = m + 1 from by cases k; exact .inl rfl; exact .inr ⟨_, rfl⟩) with hk0 | ⟨m, hm⟩
            · have hk1 : ¬ 0 < k := by omega
              have hk2 : ¬ (0 : Int) < (k : Int) := by omega
              have hk5 : decide ((0 : Int) < (k : Int)) = false := decide_eq_false hk2
              clear HR2 HH' hk0
              have htk : tidOk q.num q.node = true := by
                have h := HR1.out
                unfold doneOk at h
                rw [Bool.and_eq_true] at h
                exact h.1
              have HTK : Hid (tidOk q.num q.node = true) := htk
              have HRK : Hid (nodesOk q.ns = true) := done_parts HR1.out
              clear htk
              refine wp_region_ext (by kernel_rfl) ?_
              haveI nA := cls_ext y0.drew
              have u0 := cellX (W0 := y0.drew) (show y0.drew.cell? ⟨b, 0, none⟩ = some (.int .u64 q.num) from (Blk.of HQ.out ((Below.drew (Below.refl _ y0)).block _ HQ.out.lt)).cell 0)
              have u1 := cellX (W0 := y0.drew) (show y0.drew.cell? ⟨b, 1, none⟩ = some (.int .i64 q.node) from (Blk.of HQ.out ((Below.drew (Below.refl _ y0)).block _ HQ.out.lt)).cell 1)
              have u2 := cellX (W0 := y0.drew) (show y0.drew.cell? ⟨b, 2, none⟩ = some (.slice q.na q.nn q.nc) from (Blk.of HQ.out ((Below.drew (Below.refl _ y0)).block _ HQ.out.lt)).cell 2)
              have HYr : Hid (Below y0.heap.size y0 y0.drew) := Below.drew (Below.refl _ _)
              refine wpAnyH_seg (by kernel_rfl) (fun _ _ _ h => h) [0, 1] 25 _ _ _ (Ext.refl _) (by kernel_rfl) ?_
              simp only [opsAt, List.getElem?_toArray, List.getElem?_cons_zero, List.getElem?_cons_succ, List.cons_append, List.nil_append]
              repeat (go_big_quiet_step (fail))
              refine wpQuiet_nil ?_
              clear nA u0 u1 u2
              refine wpAnyH_callE (i := 2) (fuel := 24) 257 rfl (by kernel_rfl) rfl (Ext.refl _) (by kernel_rfl) (f := 22) (args := #[.agg #[.int .u64 q.num, .int .i64 q.node]]) (by kernel_rfl) (tid_ok q.num q.node y0.drew HTK.out) ?_
              rintro e x1 ⟨rfl, y⟩
              refine ⟨_, rfl, y, ?_⟩
              have HYr' : Hid (Below y0.heap.size y0 x1) := ext_trans HYr.out y
              clear HYr y
              have HYr := HYr'
              clear HYr'
              simp only [Act.put, List.setIfInBounds_toArray, List.set_cons_succ, List.set_cons_zero]
              haveI nA := cls_ext x1
              have u0 := cellX (W0 := x1) (show x1.cell? ⟨b, 0, none⟩ = some (.int .u64 q.num) from (Blk.of HQ.out (HYr.out.block _ HQ.out.lt)).cell 0)
              have u1 := cellX (W0 := x1) (show x1.cell? ⟨b, 1, none⟩ = some (.int .i64 q.node) from (Blk.of HQ.out (HYr.out.block _ HQ.out.lt)).cell 1)
              have u2 := cellX (W0 := x1) (show x1.cell? ⟨b, 2, none⟩ = some (.slice q.na q.nn q.nc) from (Blk.of HQ.out (HYr.out.block _ HQ.out.lt)).cell 2)
              refine wpAnyH_seg (by kernel_rfl) (fun _ _ _ h => h) [3, 4, 5, 6] 20 _ _ _ (Ext.refl _) (by kernel_rfl) ?_
              simp only [opsAt, List.getElem?_toArray, List.getElem?_cons_zero, List.getElem?_cons_succ, List.cons_append, List.nil_append]
              repeat (go_big_quiet_step (fail))
              refine wpQuiet_nil ?_
              clear nA u0 u1 u2
              refine wpAnyH_callE (i := 7) (fuel := 19) 262 rfl (by kernel_rfl) rfl (Ext.refl _) (by kernel_rfl) (f := 23) (args := #[.slice q.na q.nn q.nc]) (by kernel_rfl) (rising_ok _ q.ns x1 ((HQA.out.below HY'.out).below HYr.out).rd HRK.out) ?_
              rintro e x2 ⟨rfl, y⟩
              refine ⟨_, rfl, y, ?_⟩
              have HYr' : Hid (Below y0.heap.size y0 x2) := ext_trans HYr.out y
              clear HYr y
              have HYr := HYr'
              clear HYr'
              simp only [Act.put, List.setIfInBounds_toArray, List.set_cons_succ, List.set_cons_zero]
              haveI nA := cls_ext x2
              have u0 := cellX (W0 := x2) (show x2.cell? ⟨b, 0, none⟩ = some (.int .u64 q.num) from (Blk.of HQ.out (HYr.out.block _ HQ.out.lt)).cell 0)
              have u1 := cellX (W0 := x2) (show x2.cell? ⟨b, 1, none⟩ = some (.int .i64 q.node) from (Blk.of HQ.out (HYr.out.block _ HQ.out.lt)).cell 1)
              have u2 := cellX (W0 := x2) (show x2.cell? ⟨b, 2, none⟩ = some (.slice q.na q.nn q.nc) from (Blk.of HQ.out (HYr.out.block _ HQ.out.lt)).cell 2)
              refine wpAnyH_seg (by kernel_rfl) (fun _ _ _ h => h) [8, 9, 10, 11, 12, 13, 14, 15, 16, 17, 18, 19, 20, 21, 22] 4 _ _ _ (Ext.refl _) (by kernel_rfl) ?_
              simp only [opsAt, List.getElem?_toArray, List.getElem?_cons_zero, List.getElem?_cons_succ, List.cons_append, List.nil_append]
              repeat (go_big_quiet_step (fail))
              refine wpQuiet_nil ?_
              refine wpAnyH_all (rs := [23]) (fuel := 3) (by kernel_rfl) (by simp) fun j0 hj0 => ?_
              obtain rfl : j0 = 23 := by simpa using hj0
              clear hj0
              refine wpOp_skip 278 rfl (by kernel_rfl) rfl ?_
              refine ⟨Ext.refl _, ?_⟩
              simp only [Act.put, List.setIfInBounds_toArray, List.set_cons_succ, List.set_cons_zero]
              refine wpAnyH_seg (by kernel_rfl) (fun _ _ _ h => h) [24, 25, 26] 0 _ _ _ (Ext.refl _) (by kernel_rfl) ?_
              simp only [opsAt, List.getElem?_toArray, List.getElem?_cons_zero, List.getElem?_cons_succ, List.cons_append, List.nil_append]
              repeat (go_big_quiet_step (fail))
              refine wpQuiet_nil ?_
              clear nA u0 u1 u2
              refine wpAnyH_done (by kernel_rfl) (NoPanic.normal ?_) 0
              have HYZ : Hid (Below w.heap.size w x2) := ext_trans HY'.out HYr.out
              have HBZ : Hid (Blk x2 w.heap.size #[.int .i64 8, .int .u64 0, .int .i64 0, .string (⟨#[]⟩ : ByteArray), .bool false, .string (⟨#[]⟩ : ByteArray), .int .u64 0, .slice na 0 nc, .slice ra 0 rc, .slice ga 0 gc, .slice oa om oc, .slice (some ad) dn dc] 31) := Blk.of HB'.out (HYr.out.block _ HB'.out.lt)
              go_wp2
              go_roundw
              case rel => exact ⟨k + 1, by go_num, by omega, HYZ.out, HBZ.out⟩
              case measure => simp [intOf]; omega
            · have hml : m < ds.length := by omega
              have HA2 : Hid (_ = true) := HR2.out m hml hm
              have hk1 : 0 < k := by omega
              have hk2 : (0 : Int) < (k : Int) := by omega
              have hk5 : decide ((0 : Int) < (k : Int)) = true := decide_eq_true hk2
              have hk3 : (k : Int) - 1 = (m : Int) := by omega
              have hk4 : m < dn := by omega
              have HM0 : Hid (∀ W, Below y0.heap.size y0 W → W.cell? (ad.add (m * 3)) = some (.int .u64 ds[m].num)) := fun W hW => (HH'.out.below hW).at0 hml rfl
              have HM1 : Hid (∀ W, Below y0.heap.size y0 W → W.cell? ⟨(ad.add (m * 3)).block, (ad.add (m * 3)).off + 1, none⟩ = some (.int .i64 ds[m].node)) := fun W hW => (HH'.out.below hW).atS hml 0 rfl
              clear HH'
              have htk : tidOk q.num q.node = true := by
                have h := HR1.out
                unfold doneOk at h
                rw [Bool.and_eq_true] at h
                exact h.1
              have HTK : Hid (tidOk q.num q.node = true) := htk
              have HRK : Hid (nodesOk q.ns = true) := done_parts HR1.out
              clear htk
              have HEL : Hid (elderT (ds[m]).num (ds[m]).node q.num q.node = true) := HA2.out
              generalize ds[m] = m0 at *
              clear HR2 hm hml
              refine wp_region_ext (by kernel_rfl) ?_
              haveI nA := cls_ext y0.drew
              have u0 := cellX (W0 := y0.drew) (show y0.drew.cell? ⟨b, 0, none⟩ = some (.int .u64 q.num) from (Blk.of HQ.out ((Below.drew (Below.refl _ y0)).block _ HQ.out.lt)).cell 0)
              have u1 := cellX (W0 := y0.drew) (show y0.drew.cell? ⟨b, 1, none⟩ = some (.int .i64 q.node) from (Blk.of HQ.out ((Below.drew (Below.refl _ y0)).block _ HQ.out.lt)).cell 1)
              have u2 := cellX (W0 := y0.drew) (show y0.drew.cell? ⟨b, 2, none⟩ = some (.slice q.na q.nn q.nc) from (Blk.of HQ.out ((Below.drew (Below.refl _ y0)).block _ HQ.out.lt)).cell 2)
              have p9 := cellX (W0 := y0.drew) (show y0.drew.cell? ⟨w.heap.size, 11, none⟩ = some (.slice (some ad) dn dc) from (Blk.of HB'.out ((Below.drew (Below.refl _ y0)).block _ HB'.out.lt)).cell 11)
              have m9 := cellX (W0 := y0.drew) (HM0.out _ (Below.drew (Below.refl _ y0)))
              have m8 := cellX (W0 := y0.drew) (HM1.out _ (Below.drew (Below.refl _ y0)))
              have HYr : Hid (Below y0.heap.size y0 y0.drew) := Below.drew (Below.refl _ _)
              refine wpAnyH_seg (by kernel_rfl) (fun _ _ _ h => h) [0, 1] 25 _ _ _ (Ext.refl _) (by kernel_rfl) ?_
              simp only [opsAt, List.getElem?_toArray, List.getElem?_cons_zero, List.getElem?_cons_succ, List.cons_append, List.nil_append]
              repeat (go_big_quiet_step (fail))
              refine wpQuiet_nil ?_
              clear nA u0 u1 u2 p9 m9 m8
              refine wpAnyH_callE (i := 2) (fuel := 24) 257 rfl (by kernel_rfl) rfl (Ext.refl _) (by kernel_rfl) (f := 22) (args := #[.agg #[.int .u64 q.num, .int .i64 q.node]]) (by kernel_rfl) (tid_ok q.num q.node y0.drew HTK.out) ?_
              rintro e x1 ⟨rfl, y⟩
              refine ⟨_, rfl, y, ?_⟩
              have HYr' : Hid (Below y0.heap.size y0 x1) := ext_trans HYr.out y
              clear HYr y
              have HYr := HYr'
              clear HYr'
              simp only [Act.put, List.setIfInBounds_toArray, List.set_cons_succ, List.set_cons_zero]
              haveI nA := cls_ext x1
              have u0 := cellX (W0 := x1) (show x1.cell? ⟨b, 0, none⟩ = some (.int .u64 q.num) from (Blk.of HQ.out (HYr.out.block _ HQ.out.lt)).cell 0)
              have u1 := cellX (W0 := x1) (show x1.cell? ⟨b, 1, none⟩ = some (.int .i64 q.node) from (Blk.of HQ.out (HYr.out.block _ HQ.out.lt)).cell 1)
              have u2 := cellX (W0 := x1) (show x1.cell? ⟨b, 2, none⟩ = some (.slice q.na q.nn q.nc) from (Blk.of HQ.out (HYr.out.block _ HQ.out.lt)).cell 2)
              have p9 := cellX (W0 := x1) (show x1.cell? ⟨w.heap.size, 11, none⟩ = some (.slice (some ad) dn dc) from (Blk.of HB'.out (HYr.out.block _ HB'.out.lt)).cell 11)
              have m9 := cellX (W0 := x1) (HM0.out _ HYr.out)
              have m8 := cellX (W0 := x1) (HM1.out _ HYr.out)
              refine wpAnyH_seg (by kernel_rfl) (fun _ _ _ h => h) [3, 4, 5, 6] 20 _ _ _ (Ext.refl _) (by kernel_rfl) ?_
              simp only [opsAt, List.getElem?_toArray, List.getElem?_cons_zero, List.getElem?_cons_succ, List.cons_append, List.nil_append]
              repeat (go_big_quiet_step (fail))
              refine wpQuiet_nil ?_
              clear nA u0 u1 u2 p9 m9 m8
              refine wpAnyH_callE (i := 7) (fuel := 19) 262 rfl (by kernel_rfl) rfl (Ext.refl _) (by kernel_rfl) (f := 23) (args := #[.slice q.na q.nn q.nc]) (by kernel_rfl) (rising_ok _ q.ns x1 ((HQA.out.below HY'.out).below HYr.out).rd HRK.out) ?_
              rintro e x2 ⟨rfl, y⟩
              refine ⟨_, rfl, y, ?_⟩
              have HYr' : Hid (Below y0.heap.size y0 x2) := ext_trans HYr.out y
              clear HYr y
              have HYr := HYr'
              clear HYr'
              simp only [Act.put, List.setIfInBounds_toArray, List.set_cons_succ, List.set_cons_zero]
              haveI nA := cls_ext x2
              have u0 := cellX (W0 := x2) (show x2.cell? ⟨b, 0, none⟩ = some (.int .u64 q.num) from (Blk.of HQ.out (HYr.out.block _ HQ.out.lt)).cell 0)
              have u1 := cellX (W0 := x2) (show x2.cell? ⟨b, 1, none⟩ = some (.int .i64 q.node) from (Blk.of HQ.out (HYr.out.block _ HQ.out.lt)).cell 1)
              have u2 := cellX (W0 := x2) (show x2.cell? ⟨b, 2, none⟩ = some (.slice q.na q.nn q.nc) from (Blk.of HQ.out (HYr.out.block _ HQ.out.lt)).cell 2)
              have p9 := cellX (W0 := x2) (show x2.cell? ⟨w.heap.size, 11, none⟩ = some (.slice (some ad) dn dc) from (Blk.of HB'.out (HYr.out.block _ HB'.out.lt)).cell 11)
              have m9 := cellX (W0 := x2) (HM0.out _ HYr.out)
              have m8 := cellX (W0 := x2) (HM1.out _ HYr.out)
              refine wpAnyH_seg (by kernel_rfl) (fun _ _ _ h => h) [8, 9, 10, 11, 12, 13, 14, 15, 16, 17, 18, 19, 20, 21, 22] 4 _ _ _ (Ext.refl _) (by kernel_rfl) ?_
              simp only [opsAt, List.getElem?_toArray, List.getElem?_cons_zero, List.getElem?_cons_succ, List.cons_append, List.nil_append]
              repeat (go_big_quiet_step (fail))
              refine wpQuiet_nil ?_
              clear nA u0 u1 u2 p9 m9 m8
              refine wpAnyH_callE (i := 23) (fuel := 3) 278 rfl (by kernel_rfl) rfl (Ext.refl _) (by kernel_rfl) (f := 26) (args := #[.agg #[.int .u64 m0.num, .int .i64 m0.node], .agg #[.int .u64 q.num, .int .i64 q.node]]) (by kernel_rfl) (elder_ok m0.num m0.node q.num q.node x2 HEL.out) ?_
              rintro e x3 ⟨rfl, y⟩
              refine ⟨_, rfl, y, ?_⟩
              have HYr' : Hid (Below y0.heap.size y0 x3) := ext_trans HYr.out y
              clear HYr y
              have HYr := HYr'
              clear HYr'
              simp only [Act.put, List.setIfInBounds_toArray, List.set_cons_succ, List.set_cons_zero]
              haveI nA := cls_ext x3
              have u0 := cellX (W0 := x3) (show x3.cell? ⟨b, 0, none⟩ = some (.int .u64 q.num) from (Blk.of HQ.out (HYr.out.block _ HQ.out.lt)).cell 0)
              have u1 := cellX (W0 := x3) (show x3.cell? ⟨b, 1, none⟩ = some (.int .i64 q.node) from (Blk.of HQ.out (HYr.out.block _ HQ.out.lt)).cell 1)
              have u2 := cellX (W0 := x3) (show x3.cell? ⟨b, 2, none⟩ = some (.slice q.na q.nn q.nc) from (Blk.of HQ.out (HYr.out.block _ HQ.out.lt)).cell 2)
              have p9 := cellX (W0 := x3) (show x3.cell? ⟨w.heap.size, 11, none⟩ = some (.slice (some ad) dn dc) from (Blk.of HB'.out (HYr.out.block _ HB'.out.lt)).cell 11)
              have m9 := cellX (W0 := x3) (HM0.out _ HYr.out)
              have m8 := cellX (W0 := x3) (HM1.out _ HYr.out)
              refine wpAnyH_seg (by kernel_rfl) (fun _ _ _ h => h) [24, 25, 26] 0 _ _ _ (Ext.refl _) (by kernel_rfl) ?_
              simp only [opsAt, List.getElem?_toArray, List.getElem?_cons_zero, List.getElem?_cons_succ, List.cons_append, List.nil_append]
              repeat (go_big_quiet_step (fail))
              refine wpQuiet_nil ?_
              clear nA u0 u1 u2 p9 m9 m8
              refine wpAnyH_done (by kernel_rfl) (NoPanic.normal ?_) 0
              have HYZ : Hid (Below w.heap.size w x3) := ext_trans HY'.out HYr.out
              have HBZ : Hid (Blk x3 w.heap.size #[.int .i64 8, .int .u64 0, .int .i64 0, .string (⟨#[]⟩ : ByteArray), .bool false, .string (⟨#[]⟩ : ByteArray), .int .u64 0, .slice na 0 nc, .slice ra 0 rc, .slice ga 0 gc, .slice oa om oc, .slice (some ad) dn dc] 31) := Blk.of HB'.out (HYr.out.block _ HB'.out.lt)
              go_wp2
              go_roundw
              case rel => exact ⟨k + 1, by go_num, by omega, HYZ.out, HBZ.out⟩
              case measure => simp [intOf]; omega
          · clear hk
            rename World => wc
            go_wp2
            go_ret
            exact ⟨rfl, HY.out⟩
end Go.Proofs.YthkmohcdgnldgaaGreat

import Derived.Test.YthkmohcdgnldgaaGreatG4
import Derived.Test.YthkmohcdgnldgaaGreatG2
import Derived.Test.YthkmohcdgnldgaaGreatG3
import Derived.Test.YthkmohcdgnldgaaGreatRec14
import Derived.ProofKit
import Derived.OpenShut
import Derived.ShutString
import Derived.ChangeOld
/- rec: the law's own right, of right records. Own lemmas, no statement. -/
set_option linter.unusedSimpArgs false
set_option linter.unusedVariables false
namespace Go.Proofs.YthkmohcdgnldgaaGreat
open Go.ChangeShapes Go.WideShapes Go.ChangeAt Go.RowKit

set_option maxRecDepth 100000 in
set_option maxHeartbeats 8000000 in
theorem right11_1 (num : Int) (node : Int) (key : ByteArray) (was : Bool) (old : ByteArray) (prev : Int) (na : Option Addr) (nc : Nat) (ra : Option Addr) (rc : Nat) (ga : Option Addr) (gn : Nat) (gc : Nat) (oa : Option Addr) (oc : Nat) (da : Option Addr) (dc : Nat) (ns : List Int) (rs : List ByteArray) (gs : List ChgV) (os : List OpenV) (ds : List DoneV) (w : World) (htid : tidOk num node = true) (hns : Rd w (.slice na 0 nc) (iv ns)) (hnk : nodesOk ns = true) (hrs : Rd w (.slice ra 0 rc) (sv rs)) (hrk : readsOk rs = true) (hprev : prev ≤ 4611686018427387904) (hg : RowsN w 9 ChgV.c (.slice ga gn gc) gs) (hga : ∀ c ∈ gs, c.At w) (hgo : fitsB chgOk chgLt noChg 30 gs = true) (hk1 : 1 ≤ key.size) (hk2 : key.size ≤ 24) (ho1 : old.size ≤ 48) (ho2 : was = true ∨ old.size = 0) :
    Calls Tryz.prog 10 #[.agg #[.int .i64 1, .int .u64 num, .int .i64 node, .string key, .bool was, .string old, .int .u64 prev, .slice na 0 nc, .slice ra 0 rc, .slice ga gn gc, .slice oa 0 oc, .slice da 0 dc]] w (OkP w) := by
  have HNS : Hid (Rd w (.slice na 0 nc) (iv ns) ∧ nodesOk ns = true) := ⟨hns, hnk⟩
  have HRS : Hid (Rd w (.slice ra 0 rc) (sv rs) ∧ readsOk rs = true) := ⟨hrs, hrk⟩
  have HTI : Hid (tidOk num node = true) := htid
  have HG : Hid (RowsN w 9 ChgV.c (.slice ga gn gc) gs) := hg
  have HGA : Hid (∀ c ∈ gs, c.At w) := hga
  have HGO : Hid (fitsB chgOk chgLt noChg 30 gs = true) := hgo
  have hgm : gn ≤ 30 := by have h1 := hg.len.1; have h2 := (fits_mem hgo).1; omega
  clear hg hga hgo
  clear htid hns hnk hrs hrk
  have HB : Hid (Blk (w.alloc (.cells #[.int .i64 1, .int .u64 num, .int .i64 node, .string key, .bool was, .string old, .int .u64 prev, .slice na 0 nc, .slice ra 0 rc, .slice ga gn gc, .slice oa 0 oc, .slice da 0 dc] 31)) w.heap.size #[.int .i64 1, .int .u64 num, .int .i64 node, .string key, .bool was, .string old, .int .u64 prev, .slice na 0 nc, .slice ra 0 rc, .slice ga gn gc, .slice oa 0 oc, .slice da 0 dc] 31) := Blk.new _ _ _
  have HY : Hid (Below w.heap.size w (w.alloc (.cells #[.int .i64 1, .int .u64 num, .int .i64 node, .string key, .bool was, .string old, .int .u64 prev, .slice na 0 nc, .slice ra 0 rc, .slice ga gn gc, .slice oa 0 oc, .slice da 0 dc] 31))) := (Below.refl _ _).alloc (Nat.le_refl _) _
  go_enter Tryz.func10, Tryz.ntmps10
  go_upto_region 1 with fail
  generalize (w.alloc (.cells #[.int .i64 1, .int .u64 num, .int .i64 node, .string key, .bool was, .string old, .int .u64 prev, .slice na 0 nc, .slice ra 0 rc, .slice ga gn gc, .slice oa 0 oc, .slice da 0 dc] 31)) = w0 at *
  have z0 : w0.cell? ⟨w.heap.size, 0, none⟩ = some (.int .i64 1) := HB.out.cell 0
  have z1 : w0.cell? ⟨w.heap.size, 1, none⟩ = some (.int .u64 num) := HB.out.cell 1
  have z2 : w0.cell? ⟨w.heap.size, 2, none⟩ = some (.int .i64 node) := HB.out.cell 2
  have z3 : w0.cell? ⟨w.heap.size, 3, none⟩ = some (.string key) := HB.out.cell 3
  have z4 : w0.cell? ⟨w.heap.size, 4, none⟩ = some (.bool was) := HB.out.cell 4
  have z5 : w0.cell? ⟨w.heap.size, 5, none⟩ = some (.string old) := HB.out.cell 5
  have z6 : w0.cell? ⟨w.heap.size, 6, none⟩ = some (.int .u64 prev) := HB.out.cell 6
  have z7 : w0.cell? ⟨w.heap.size, 7, none⟩ = some (.slice na 0 nc) := HB.out.cell 7
  have z8 : w0.cell? ⟨w.heap.size, 8, none⟩ = some (.slice ra 0 rc) := HB.out.cell 8
  have z9 : w0.cell? ⟨w.heap.size, 9, none⟩ = some (.slice ga gn gc) := HB.out.cell 9
  have z10 : w0.cell? ⟨w.heap.size, 10, none⟩ = some (.slice oa 0 oc) := HB.out.cell 10
  have z11 : w0.cell? ⟨w.heap.size, 11, none⟩ = some (.slice da 0 dc) := HB.out.cell 11
  go_wp2_with fail
  refine (tid_ok num node w0 HTI.out).mono ?_
  rintro e w1 ⟨rfl, y⟩
  have HB' : Hid (Blk w1 w.heap.size #[.int .i64 1, .int .u64 num, .int .i64 node, .string key, .bool was, .string old, .int .u64 prev, .slice na 0 nc, .slice ra 0 rc, .slice ga gn gc, .slice oa 0 oc, .slice da 0 dc] 31) := Blk.of HB.out (y.block _ HB.out.lt)
  have HY' : Hid (Below w.heap.size w w1) := ext_trans HY.out y
  clear HB HY y
  clear z0 z1 z2 z3 z4 z5 z6 z7 z8 z9 z10 z11
  have HB := HB'
  have HY := HY'
  clear HB' HY'
  have z0 : w1.cell? ⟨w.heap.size, 0, none⟩ = some (.int .i64 1) := HB.out.cell 0
  have z1 : w1.cell? ⟨w.heap.size, 1, none⟩ = some (.int .u64 num) := HB.out.cell 1
  have z2 : w1.cell? ⟨w.heap.size, 2, none⟩ = some (.int .i64 node) := HB.out.cell 2
  have z3 : w1.cell? ⟨w.heap.size, 3, none⟩ = some (.string key) := HB.out.cell 3
  have z4 : w1.cell? ⟨w.heap.size, 4, none⟩ = some (.bool was) := HB.out.cell 4
  have z5 : w1.cell? ⟨w.heap.size, 5, none⟩ = some (.string old) := HB.out.cell 5
  have z6 : w1.cell? ⟨w.heap.size, 6, none⟩ = some (.int .u64 prev) := HB.out.cell 6
  have z7 : w1.cell? ⟨w.heap.size, 7, none⟩ = some (.slice na 0 nc) := HB.out.cell 7
  have z8 : w1.cell? ⟨w.heap.size, 8, none⟩ = some (.slice ra 0 rc) := HB.out.cell 8
  have z9 : w1.cell? ⟨w.heap.size, 9, none⟩ = some (.slice ga gn gc) := HB.out.cell 9
  have z10 : w1.cell? ⟨w.heap.size, 10, none⟩ = some (.slice oa 0 oc) := HB.out.cell 10
  have z11 : w1.cell? ⟨w.heap.size, 11, none⟩ = some (.slice da 0 dc) := HB.out.cell 11
  go_wp2_with fail
  refine (rising_ok _ ns w1 (HNS.out.1.below HY.out) HNS.out.2).mono ?_
  rintro e w2 ⟨rfl, y⟩
  have HB' : Hid (Blk w2 w.heap.size #[.int .i64 1, .int .u64 num, .int .i64 node, .string key, .bool was, .string old, .int .u64 prev, .slice na 0 nc, .slice ra 0 rc, .slice ga gn gc, .slice oa 0 oc, .slice da 0 dc] 31) := Blk.of HB.out (y.block _ HB.out.lt)
  have HY' : Hid (Below w.heap.size w w2) := ext_trans HY.out y
  clear HB HY y
  clear z0 z1 z2 z3 z4 z5 z6 z7 z8 z9 z10 z11
  have HB := HB'
  have HY := HY'
  clear HB' HY'
  have z0 : w2.cell? ⟨w.heap.size, 0, none⟩ = some (.int .i64 1) := HB.out.cell 0
  have z1 : w2.cell? ⟨w.heap.size, 1, none⟩ = some (.int .u64 num) := HB.out.cell 1
  have z2 : w2.cell? ⟨w.heap.size, 2, none⟩ = some (.int .i64 node) := HB.out.cell 2
  have z3 : w2.cell? ⟨w.heap.size, 3, none⟩ = some (.string key) := HB.out.cell 3
  have z4 : w2.cell? ⟨w.heap.size, 4, none⟩ = some (.bool was) := HB.out.cell 4
  have z5 : w2.cell? ⟨w.heap.size, 5, none⟩ = some (.string old) := HB.out.cell 5
  have z6 : w2.cell? ⟨w.heap.size, 6, none⟩ = some (.int .u64 prev) := HB.out.cell 6
  have z7 : w2.cell? ⟨w.heap.size, 7, none⟩ = some (.slice na 0 nc) := HB.out.cell 7
  have z8 : w2.cell? ⟨w.heap.size, 8, none⟩ = some (.slice ra 0 rc) := HB.out.cell 8
  have z9 : w2.cell? ⟨w.heap.size, 9, none⟩ = some (.slice ga gn gc) := HB.out.cell 9
  have z10 : w2.cell? ⟨w.heap.size, 10, none⟩ = some (.slice oa 0 oc) := HB.out.cell 10
  have z11 : w2.cell? ⟨w.heap.size, 11, none⟩ = some (.slice da 0 dc) := HB.out.cell 11
  go_wp2_with fail
  refine (keys_ok _ rs w2 (HRS.out.1.below HY.out) HRS.out.2).mono ?_
  rintro e w3 ⟨rfl, y⟩
  have HB' : Hid (Blk w3 w.heap.size #[.int .i64 1, .int .u64 num, .int .i64 node, .string key, .bool was, .string old, .int .u64 prev, .slice na 0 nc, .slice ra 0 rc, .slice ga gn gc, .slice oa 0 oc, .slice da 0 dc] 31) := Blk.of HB.out (y.block _ HB.out.lt)
  have HY' : Hid (Below w.heap.size w w3) := ext_trans HY.out y
  clear HB HY y
  clear z0 z1 z2 z3 z4 z5 z6 z7 z8 z9 z10 z11
  have HB := HB'
  have HY := HY'
  clear HB' HY'
  have z0 : w3.cell? ⟨w.heap.size, 0, none⟩ = some (.int .i64 1) := HB.out.cell 0
  have z1 : w3.cell? ⟨w.heap.size, 1, none⟩ = some (.int .u64 num) := HB.out.cell 1
  have z2 : w3.cell? ⟨w.heap.size, 2, none⟩ = some (.int .i64 node) := HB.out.cell 2
  have z3 : w3.cell? ⟨w.heap.size, 3, none⟩ = some (.string key) := HB.out.cell 3
  have z4 : w3.cell? ⟨w.heap.size, 4, none⟩ = some (.bool was) := HB.out.cell 4
  have z5 : w3.cell? ⟨w.heap.size, 5, none⟩ = some (.string old) := HB.out.cell 5
  have z6 : w3.cell? ⟨w.heap.size, 6, none⟩ = some (.int .u64 prev) := HB.out.cell 6
  have z7 : w3.cell? ⟨w.heap.size, 7, none⟩ = some (.slice na 0 nc) := HB.out.cell 7
  have z8 : w3.cell? ⟨w.heap.size, 8, none⟩ = some (.slice ra 0 rc) := HB.out.cell 8
  have z9 : w3.cell? ⟨w.heap.size, 9, none⟩ = some (.slice ga gn gc) := HB.out.cell 9
  have z10 : w3.cell? ⟨w.heap.size, 10, none⟩ = some (.slice oa 0 oc) := HB.out.cell 10
  have z11 : w3.cell? ⟨w.heap.size, 11, none⟩ = some (.slice da 0 dc) := HB.out.cell 11
  have hk3 : ¬ key.size < 1 := by omega
  have hk4 : ¬ 24 < key.size := by omega
  have ho3 : ¬ 48 < old.size := by omega
  have HFW : Hid (was = true ∨ old.size = 0) := ho2
  clear ho2
  cases was with
  | true =>
    go_wp2
    clear z0 z1 z2 z3 z4 z5 z6 z7 z8 z9 z10 z11
    go_loopw [155] (fun i wr => ∃ k : Nat, i = .int .i64 (k : Int) ∧ k ≤ gn ∧ Below w.heap.size w wr ∧ Blk wr w.heap.size #[.int .i64 1, .int .u64 num, .int .i64 node, .string key, .bool true, .string old, .int .u64 prev, .slice na 0 nc, .slice ra 0 rc, .slice ga gn gc, .slice oa 0 oc, .slice da 0 dc] 31) (fun i _ => gn - (intOf i).toNat)
    case atStart => exact ⟨0, rfl, Nat.zero_le _, HY.out, HB.out⟩
    case round =>
      obtain ⟨k, rfl, hk, hy, hb⟩ := hrel
      clear HY HB
      have HY : Hid (Below w.heap.size w wr) := hy
      have HB : Hid (Blk wr w.heap.size #[.int .i64 1, .int .u64 num, .int .i64 node, .string key, .bool true, .string old, .int .u64 prev, .slice na 0 nc, .slice ra 0 rc, .slice ga gn gc, .slice oa 0 oc, .slice da 0 dc] 31) := hb
      clear hy hb
      by_cases hlt : k < gn
      · have hkl : k < gs.length := by rw [← HG.out.len.1]; exact hlt
        have hi2 : (k : Int) < (gn : Int) := by omega
        obtain ⟨ad, had⟩ := RowsN.adr HG.out (by omega)
        subst had
        have HH : Hid (RowsN wr 9 _ (.slice (some ad) _ _) gs) := HG.out.below HY.out
        have e0 : wr.cell? (ad.add (k * 9)) = some _ := HH.out.at0 hkl rfl
        have e1 : wr.cell? ⟨(ad.add (k * 9)).block, (ad.add (k * 9)).off + 1, none⟩ = some _ := HH.out.atS hkl 0 rfl
        have e2 : wr.cell? ⟨(ad.add (k * 9)).block, (ad.add (k * 9)).off + 2, none⟩ = some _ := HH.out.atS hkl 1 rfl
        have e3 : wr.cell? ⟨(ad.add (k * 9)).block, (ad.add (k * 9)).off + 3, none⟩ = some _ := HH.out.atS hkl 2 rfl
        have e4 : wr.cell? ⟨(ad.add (k * 9)).block, (ad.add (k * 9)).off + 4, none⟩ = some _ := HH.out.atS hkl 3 rfl
        have e5 : wr.cell? ⟨(ad.add (k * 9)).block, (ad.add (k * 9)).off + 5, none⟩ = some _ := HH.out.atS hkl 4 rfl
        have e6 : wr.cell? ⟨(ad.add (k * 9)).block, (ad.add (k * 9)).off + 6, none⟩ = some _ := HH.out.atS hkl 5 rfl
        have e7 : wr.cell? ⟨(ad.add (k * 9)).block, (ad.add (k * 9)).off + 7, none⟩ = some _ := HH.out.atS hkl 6 rfl
        have e8 : wr.cell? ⟨(ad.add (k * 9)).block, (ad.add (k * 9)).off + 8, none⟩ = some _ := HH.out.atS hkl 7 rfl
        obtain ⟨hr1, hr2⟩ := fits_at HGO.out hkl
        have HR1 : Hid (_ = true) := hr1
        have HR2 : Hid (∀ j (hj : j < gs.length), k = j + 1 → _ = true) := hr2
        have HQA : Hid (gs[k].At w) := HGA.out _ (List.getElem_mem hkl)
        clear hr1 hr2
        generalize gs[k] = q at *
        have HY' : Hid (Below w.heap.size w (wr.alloc (.cells #[.int .i64 q.n, .int .i64 q.p.kind, .slice q.ka q.kn q.kc, .slice q.va q.vn q.vc, .slice q.da q.dn q.dc, .int .i64 q.p.root, .int .i64 q.p.next, .int .i64 q.p.size, .int .i64 q.p.idle] 49))) := HY.out.alloc HY.out.size _
        have HB' : Hid (Blk (wr.alloc (.cells #[.int .i64 q.n, .int .i64 q.p.kind, .slice q.ka q.kn q.kc, .slice q.va q.vn q.vc, .slice q.da q.dn q.dc, .int .i64 q.p.root, .int .i64 q.p.next, .int .i64 q.p.size, .int .i64 q.p.idle] 49)) w.heap.size #[.int .i64 1, .int .u64 num, .int .i64 node, .string key, .bool true, .string old, .int .u64 prev, .slice na 0 nc, .slice ra 0 rc, .slice (some ad) gn gc, .slice oa 0 oc, .slice da 0 dc] 31) := HB.out.alloc _
        have HQ : Hid (Blk (wr.alloc (.cells #[.int .i64 q.n, .int .i64 q.p.kind, .slice q.ka q.kn q.kc, .slice q.va q.vn q.vc, .slice q.da q.dn q.dc, .int .i64 q.p.root, .int .i64 q.p.next, .int .i64 q.p.size, .int .i64 q.p.idle] 49)) wr.heap.size #[.int .i64 q.n, .int .i64 q.p.kind, .slice q.ka q.kn q.kc, .slice q.va q.vn q.vc, .slice q.da q.dn q.dc, .int .i64 q.p.root, .int .i64 q.p.next, .int .i64 q.p.size, .int .i64 q.p.idle] 49) := Blk.new _ _ _
        have HH' : Hid (RowsN (wr.alloc (.cells #[.int .i64 q.n, .int .i64 q.p.kind, .slice q.ka q.kn q.kc, .slice q.va q.vn q.vc, .slice q.da q.dn q.dc, .int .i64 q.p.root, .int .i64 q.p.next, .int .i64 q.p.size, .int .i64 q.p.idle] 49)) 9 _ (.slice (some ad) _ _) gs) := HH.out.below (below_allocR _)
        go_upto_region 13 with fail
        clear e0 e1 e2 e3 e4 e5 e6 e7 e8 HH HY HB
        generalize (wr.alloc (.cells #[.int .i64 q.n, .int .i64 q.p.kind, .slice q.ka q.kn q.kc, .slice q.va q.vn q.vc, .slice q.da q.dn q.dc, .int .i64 q.p.root, .int .i64 q.p.next, .int .i64 q.p.size, .int .i64 q.p.idle] 49)) = y0 at *
        obtain ⟨b, hbb⟩ : ∃ b, wr.heap.size = b := ⟨_, rfl⟩
        rw [hbb] at HQ ⊢
        clear hbb
        rcases (show k = 0 ∨ ∃ m, k = m + 1 from by cases k; exact .inl rfl; exact .inr ⟨_, rfl⟩) with hk0 | ⟨m, hm⟩
        · have hk1 : ¬ 0 < k := by omega
          have hk2 : ¬ (0 : Int) < (k : Int) := by omega
          have hk5 : decide ((0 : Int) < (k : Int)) = false := decide_eq_false hk2
          clear HR2 HH' hk0
          obtain ⟨hn0, hn1⟩ := (chg_parts HR1.out).1
          have hn2 : ¬ q.n < 0 := by omega
          have hn3 : ¬ 65535 < q.n := by omega
          have HPR : Hid (rightPg q.p = true) := (chg_parts HR1.out).2
          refine wp_region_ext (by kernel_rfl) ?_
          haveI nA := cls_ext y0.drew
          have u0 := cellX (W0 := y0.drew) (show y0.drew.cell? ⟨b, 0, none⟩ = some (.int .i64 q.n) from (Blk.of HQ.out ((Below.drew (Below.refl _ y0)).block _ HQ.out.lt)).cell 0)
          have u1 := cellX (W0 := y0.drew) (show y0.drew.cell? ⟨b, 1, none⟩ = some (.int .i64 q.p.kind) from (Blk.of HQ.out ((Below.drew (Below.refl _ y0)).block _ HQ.out.lt)).cell 1)
          have u2 := cellX (W0 := y0.drew) (show y0.drew.cell? ⟨b, 2, none⟩ = some (.slice q.ka q.kn q.kc) from (Blk.of HQ.out ((Below.drew (Below.refl _ y0)).block _ HQ.out.lt)).cell 2)
          have u3 := cellX (W0 := y0.drew) (show y0.drew.cell? ⟨b, 3, none⟩ = some (.slice q.va q.vn q.vc) from (Blk.of HQ.out ((Below.drew (Below.refl _ y0)).block _ HQ.out.lt)).cell 3)
          have u4 := cellX (W0 := y0.drew) (show y0.drew.cell? ⟨b, 4, none⟩ = some (.slice q.da q.dn q.dc) from (Blk.of HQ.out ((Below.drew (Below.refl _ y0)).block _ HQ.out.lt)).cell 4)
          have u5 := cellX (W0 := y0.drew) (show y0.drew.cell? ⟨b, 5, none⟩ = some (.int .i64 q.p.root) from (Blk.of HQ.out ((Below.drew (Below.refl _ y0)).block _ HQ.out.lt)).cell 5)
          have u6 := cellX (W0 := y0.drew) (show y0.drew.cell? ⟨b, 6, none⟩ = some (.int .i64 q.p.next) from (Blk.of HQ.out ((Below.drew (Below.refl _ y0)).block _ HQ.out.lt)).cell 6)
          have u7 := cellX (W0 := y0.drew) (show y0.drew.cell? ⟨b, 7, none⟩ = some (.int .i64 q.p.size) from (Blk.of HQ.out ((Below.drew (Below.refl _ y0)).block _ HQ.out.lt)).cell 7)
          have u8 := cellX (W0 := y0.drew) (show y0.drew.cell? ⟨b, 8, none⟩ = some (.int .i64 q.p.idle) from (Blk.of HQ.out ((Below.drew (Below.refl _ y0)).block _ HQ.out.lt)).cell 8)
          have HYr : Hid (Below y0.heap.size y0 y0.drew) := Below.drew (Below.refl _ _)
          refine wpAnyH_seg (by kernel_rfl) (fun _ _ _ h => h) [0, 1, 2, 3, 4, 5, 6, 7, 8, 9, 10] 19 _ _ _ (Ext.refl _) (by kernel_rfl) ?_
          simp only [opsAt, List.getElem?_toArray, List.getElem?_cons_zero, List.getElem?_cons_succ, List.cons_append, List.nil_append]
          repeat (go_big_quiet_step (fail))
          refine wpQuiet_nil ?_
          clear nA u0 u1 u2 u3 u4 u5 u6 u7 u8
          refine wpAnyH_callE (i := 11) (fuel := 18) 171 rfl (by kernel_rfl) rfl (Ext.refl _) (by kernel_rfl) (f := 25) (args := #[.agg #[.int .i64 q.p.kind, .slice q.ka q.kn q.kc, .slice q.va q.vn q.vc, .slice q.da q.dn q.dc, .int .i64 q.p.root, .int .i64 q.p.next, .int .i64 q.p.size, .int .i64 q.p.idle]]) (by kernel_rfl) (page_ok q.p _ _ _ y0.drew (((HQA.out.below HY'.out).below HYr.out).rd) HQA.out.ok HPR.out) ?_
          rintro e x1 ⟨rfl, y⟩
          refine ⟨_, rfl, y, ?_⟩
          have HYr' : Hid (Below y0.heap.size y0 x1) := ext_trans HYr.out y
          clear HYr y
          have HYr := HYr'
          clear HYr'
          simp only [Act.put, List.setIfInBounds_toArray, List.set_cons_succ, List.set_cons_zero]
          haveI nA := cls_ext x1
          have u0 := cellX (W0 := x1) (show x1.cell? ⟨b, 0, none⟩ = some (.int .i64 q.n) from (Blk.of HQ.out (HYr.out.block _ HQ.out.lt)).cell 0)
          have u1 := cellX (W0 := x1) (show x1.cell? ⟨b, 1, none⟩ = some (.int .i64 q.p.kind) from (Blk.of HQ.out (HYr.out.block _ HQ.out.lt)).cell 1)
          have u2 := cellX (W0 := x1) (show x1.cell? ⟨b, 2, none⟩ = some (.slice q.ka q.kn q.kc) from (Blk.of HQ.out (HYr.out.block _ HQ.out.lt)).cell 2)
          have u3 := cellX (W0 := x1) (show x1.cell? ⟨b, 3, none⟩ = some (.slice q.va q.vn q.vc) from (Blk.of HQ.out (HYr.out.block _ HQ.out.lt)).cell 3)
          have u4 := cellX (W0 := x1) (show x1.cell? ⟨b, 4, none⟩ = some (.slice q.da q.dn q.dc) from (Blk.of HQ.out (HYr.out.block _ HQ.out.lt)).cell 4)
          have u5 := cellX (W0 := x1) (show x1.cell? ⟨b, 5, none⟩ = some (.int .i64 q.p.root) from (Blk.of HQ.out (HYr.out.block _ HQ.out.lt)).cell 5)
          have u6 := cellX (W0 := x1) (show x1.cell? ⟨b, 6, none⟩ = some (.int .i64 q.p.next) from (Blk.of HQ.out (HYr.out.block _ HQ.out.lt)).cell 6)
          have u7 := cellX (W0 := x1) (show x1.cell? ⟨b, 7, none⟩ = some (.int .i64 q.p.size) from (Blk.of HQ.out (HYr.out.block _ HQ.out.lt)).cell 7)
          have u8 := cellX (W0 := x1) (show x1.cell? ⟨b, 8, none⟩ = some (.int .i64 q.p.idle) from (Blk.of HQ.out (HYr.out.block _ HQ.out.lt)).cell 8)
          refine wpAnyH_seg (by kernel_rfl) (fun _ _ _ h => h) [12, 13, 14, 15, 16, 17, 18, 19, 20, 21, 22, 23, 24, 25, 26, 27, 28, 29] 0 _ _ _ (Ext.refl _) (by kernel_rfl) ?_
          simp only [opsAt, List.getElem?_toArray, List.getElem?_cons_zero, List.getElem?_cons_succ, List.cons_append, List.nil_append]
          repeat (go_big_quiet_step (fail))
          refine wpQuiet_nil ?_
          clear nA u0 u1 u2 u3 u4 u5 u6 u7 u8
          refine wpAnyH_done (by kernel_rfl) (NoPanic.normal ?_) 0
          have HYZ : Hid (Below w.heap.size w x1) := ext_trans HY'.out HYr.out
          have HBZ : Hid (Blk x1 w.heap.size #[.int .i64 1, .int .u64 num, .int .i64 node, .string key, .bool true, .string old, .int .u64 prev, .slice na 0 nc, .slice ra 0 rc, .slice (some ad) gn gc, .slice oa 0 oc, .slice da 0 dc] 31) := Blk.of HB'.out (HYr.out.block _ HB'.out.lt)
          go_wp2
          go_roundw
          case rel => exact ⟨k + 1, by go_num, by omega, HYZ.out, HBZ.out⟩
          case measure => simp [intOf]; omega
        · have hml : m < gs.length := by omega
          have HA2 : Hid (_ = true) := HR2.out m hml hm
          have hk1 : 0 < k := by omega
          have hk2 : (0 : Int) < (k : Int) := by omega
          have hk5 : decide ((0 : Int) < (k : Int)) = true := decide_eq_true hk2
          have hk3 : (k : Int) - 1 = (m : Int) := by omega
          have hk4 : m < gn := by omega
          have HM0 : Hid (∀ W, Below y0.heap.size y0 W → W.cell? (ad.add (m * 9)) = some (.int .i64 gs[m].n)) := fun W hW => (HH'.out.below hW).at0 hml rfl
          clear HH'
          obtain ⟨hn0, hn1⟩ := (chg_parts HR1.out).1
          have hn2 : ¬ q.n < 0 := by omega
          have hn3 : ¬ 65535 < q.n := by omega
          have HPR : Hid (rightPg q.p = true) := (chg_parts HR1.out).2
          have hn4 : (gs[m]).n < q.n := by have h := HA2.out; unfold chgLt ltI at h; exact of_decide_eq_true h
          have hn5 : ¬ q.n ≤ (gs[m]).n := by omega
          generalize gs[m] = m0 at *
          clear HR2 hm hml
          refine wp_region_ext (by kernel_rfl) ?_
          haveI nA := cls_ext y0.drew
          have u0 := cellX (W0 := y0.drew) (show y0.drew.cell? ⟨b, 0, none⟩ = some (.int .i64 q.n) from (Blk.of HQ.out ((Below.drew (Below.refl _ y0)).block _ HQ.out.lt)).cell 0)
          have u1 := cellX (W0 := y0.drew) (show y0.drew.cell? ⟨b, 1, none⟩ = some (.int .i64 q.p.kind) from (Blk.of HQ.out ((Below.drew (Below.refl _ y0)).block _ HQ.out.lt)).cell 1)
          have u2 := cellX (W0 := y0.drew) (show y0.drew.cell? ⟨b, 2, none⟩ = some (.slice q.ka q.kn q.kc) from (Blk.of HQ.out ((Below.drew (Below.refl _ y0)).block _ HQ.out.lt)).cell 2)
          have u3 := cellX (W0 := y0.drew) (show y0.drew.cell? ⟨b, 3, none⟩ = some (.slice q.va q.vn q.vc) from (Blk.of HQ.out ((Below.drew (Below.refl _ y0)).block _ HQ.out.lt)).cell 3)
          have u4 := cellX (W0 := y0.drew) (show y0.drew.cell? ⟨b, 4, none⟩ = some (.slice q.da q.dn q.dc) from (Blk.of HQ.out ((Below.drew (Below.refl _ y0)).block _ HQ.out.lt)).cell 4)
          have u5 := cellX (W0 := y0.drew) (show y0.drew.cell? ⟨b, 5, none⟩ = some (.int .i64 q.p.root) from (Blk.of HQ.out ((Below.drew (Below.refl _ y0)).block _ HQ.out.lt)).cell 5)
          have u6 := cellX (W0 := y0.drew) (show y0.drew.cell? ⟨b, 6, none⟩ = some (.int .i64 q.p.next) from (Blk.of HQ.out ((Below.drew (Below.refl _ y0)).block _ HQ.out.lt)).cell 6)
          have u7 := cellX (W0 := y0.drew) (show y0.drew.cell? ⟨b, 7, none⟩ = some (.int .i64 q.p.size) from (Blk.of HQ.out ((Below.drew (Below.refl _ y0)).block _ HQ.out.lt)).cell 7)
          have u8 := cellX (W0 := y0.drew) (show y0.drew.cell? ⟨b, 8, none⟩ = some (.int .i64 q.p.idle) from (Blk.of HQ.out ((Below.drew (Below.refl _ y0)).block _ HQ.out.lt)).cell 8)
          have p9 := cellX (W0 := y0.drew) (show y0.drew.cell? ⟨w.heap.size, 9, none⟩ = some (.slice (some ad) gn gc) from (Blk.of HB'.out ((Below.drew (Below.refl _ y0)).block _ HB'.out.lt)).cell 9)
          have m9 := cellX (W0 := y0.drew) (HM0.out _ (Below.drew (Below.refl _ y0)))
          have HYr : Hid (Below y0.heap.size y0 y0.drew) := Below.drew (Below.refl _ _)
          refine wpAnyH_seg (by kernel_rfl) (fun _ _ _ h => h) [0, 1, 2, 3, 4, 5, 6, 7, 8, 9, 10] 19 _ _ _ (Ext.refl _) (by kernel_rfl) ?_
          simp only [opsAt, List.getElem?_toArray, List.getElem?_cons_zero, List.getElem?_cons_succ, List.cons_append, List.nil_append]
          repeat (go_big_quiet_step (fail))
          refine wpQuiet_nil ?_
          clear nA u0 u1 u2 u3 u4 u5 u6 u7 u8 p9 m9
          refine wpAnyH_callE (i := 11) (fuel := 18) 171 rfl (by kernel_rfl) rfl (Ext.refl _) (by kernel_rfl) (f := 25) (args := #[.agg #[.int .i64 q.p.kind, .slice q.ka q.kn q.kc, .slice q.va q.vn q.vc, .slice q.da q.dn q.dc, .int .i64 q.p.root, .int .i64 q.p.next, .int .i64 q.p.size, .int .i64 q.p.idle]]) (by kernel_rfl) (page_ok q.p _ _ _ y0.drew (((HQA.out.below HY'.out).below HYr.out).rd) HQA.out.ok HPR.out) ?_
          rintro e x1 ⟨rfl, y⟩
          refine ⟨_, rfl, y, ?_⟩
          have HYr' : Hid (Below y0.heap.size y0 x1) := ext_trans HYr.out y
          clear HYr y
          have HYr := HYr'
          clear HYr'
          simp only [Act.put, List.setIfInBounds_toArray, List.set_cons_succ, List.set_cons_zero]
          haveI nA := cls_ext x1
          have u0 := cellX (W0 := x1) (show x1.cell? ⟨b, 0, none⟩ = some (.int .i64 q.n) from (Blk.of HQ.out (HYr.out.block _ HQ.out.lt)).cell 0)
          have u1 := cellX (W0 := x1) (show x1.cell? ⟨b, 1, none⟩ = some (.int .i64 q.p.kind) from (Blk.of HQ.out (HYr.out.block _ HQ.out.lt)).cell 1)
          have u2 := cellX (W0 := x1) (show x1.cell? ⟨b, 2, none⟩ = some (.slice q.ka q.kn q.kc) from (Blk.of HQ.out (HYr.out.block _ HQ.out.lt)).cell 2)
          have u3 := cellX (W0 := x1) (show x1.cell? ⟨b, 3, none⟩ = some (.slice q.va q.vn q.vc) from (Blk.of HQ.out (HYr.out.block _ HQ.out.lt)).cell 3)
          have u4 := cellX (W0 := x1) (show x1.cell? ⟨b, 4, none⟩ = some (.slice q.da q.dn q.dc) from (Blk.of HQ.out (HYr.out.block _ HQ.out.lt)).cell 4)
          have u5 := cellX (W0 := x1) (show x1.cell? ⟨b, 5, none⟩ = some (.int .i64 q.p.root) from (Blk.of HQ.out (HYr.out.block _ HQ.out.lt)).cell 5)
          have u6 := cellX (W0 := x1) (show x1.cell? ⟨b, 6, none⟩ = some (.int .i64 q.p.next) from (Blk.of HQ.out (HYr.out.block _ HQ.out.lt)).cell 6)
          have u7 := cellX (W0 := x1) (show x1.cell? ⟨b, 7, none⟩ = some (.int .i64 q.p.size) from (Blk.of HQ.out (HYr.out.block _ HQ.out.lt)).cell 7)
          have u8 := cellX (W0 := x1) (show x1.cell? ⟨b, 8, none⟩ = some (.int .i64 q.p.idle) from (Blk.of HQ.out (HYr.out.block _ HQ.out.lt)).cell 8)
          have p9 := cellX (W0 := x1) (show x1.cell? ⟨w.heap.size, 9, none⟩ = some (.slice (some ad) gn gc) from (Blk.of HB'.out (HYr.out.block _ HB'.out.lt)).cell 9)
          have m9 := cellX (W0 := x1) (HM0.out _ HYr.out)
          refine wpAnyH_seg (by kernel_rfl) (fun _ _ _ h => h) [12, 13, 14, 15, 16, 17, 18, 19, 20, 21, 22, 23, 24, 25, 26, 27, 28, 29] 0 _ _ _ (Ext.refl _) (by kernel_rfl) ?_
          simp only [opsAt, List.getElem?_toArray, List.getElem?_cons_zero, List.getElem?_cons_succ, List.cons_append, List.nil_append]
          repeat (go_big_quiet_step (fail))
          refine wpQuiet_nil ?_
          clear nA u0 u1 u2 u3 u4 u5 u6 u7 u8 p9 m9
          refine wpAnyH_done (by kernel_rfl) (NoPanic.normal ?_) 0
          have HYZ : Hid (Below w.heap.size w x1) := ext_trans HY'.out HYr.out
          have HBZ : Hid (Blk x1 w.heap.size #[.int .i64 1, .int .u64 num, .int .i64 node, .string key, .bool true, .string old, .int .u64 prev, .slice na 0 nc, .slice ra 0 rc, .slice (some ad) gn gc, .slice oa 0 oc, .slice da 0 dc] 31) := Blk.of HB'.out (HYr.out.block _ HB'.out.lt)
          go_wp2
          go_roundw
          case rel => exact ⟨k + 1, by go_num, by omega, HYZ.out, HBZ.out⟩
          case measure => simp [intOf]; omega
      · clear hk
        rename World => wa
        have z0 : wa.cell? ⟨w.heap.size, 0, none⟩ = some (.int .i64 1) := HB.out.cell 0
        have z1 : wa.cell? ⟨w.heap.size, 1, none⟩ = some (.int .u64 num) := HB.out.cell 1
        have z2 : wa.cell? ⟨w.heap.size, 2, none⟩ = some (.int .i64 node) := HB.out.cell 2
        have z3 : wa.cell? ⟨w.heap.size, 3, none⟩ = some (.string key) := HB.out.cell 3
        have z4 : wa.cell? ⟨w.heap.size, 4, none⟩ = some (.bool true) := HB.out.cell 4
        have z5 : wa.cell? ⟨w.heap.size, 5, none⟩ = some (.string old) := HB.out.cell 5
        have z6 : wa.cell? ⟨w.heap.size, 6, none⟩ = some (.int .u64 prev) := HB.out.cell 6
        have z7 : wa.cell? ⟨w.heap.size, 7, none⟩ = some (.slice na 0 nc) := HB.out.cell 7
        have z8 : wa.cell? ⟨w.heap.size, 8, none⟩ = some (.slice ra 0 rc) := HB.out.cell 8
        have z9 : wa.cell? ⟨w.heap.size, 9, none⟩ = some (.slice ga gn gc) := HB.out.cell 9
        have z10 : wa.cell? ⟨w.heap.size, 10, none⟩ = some (.slice oa 0 oc) := HB.out.cell 10
        have z11 : wa.cell? ⟨w.heap.size, 11, none⟩ = some (.slice da 0 dc) := HB.out.cell 11
        go_wp2
        clear z0 z1 z2 z3 z4 z5 z6 z7 z8 z9 z10 z11
        go_loopw [194] (fun i wr => i = .int .i64 0 ∧ Below w.heap.size w wr ∧ Blk wr w.heap.size #[.int .i64 1, .int .u64 num, .int .i64 node, .string key, .bool true, .string old, .int .u64 prev, .slice na 0 nc, .slice ra 0 rc, .slice ga gn gc, .slice oa 0 oc, .slice da 0 dc] 31) (fun _ _ => 0)
        case atStart => exact ⟨rfl, HY.out, HB.out⟩
        case round =>
          obtain ⟨rfl, hy, hb⟩ := hrel
          clear HY HB
          have HY : Hid (Below w.heap.size w wr) := hy
          have HB : Hid (Blk wr w.heap.size #[.int .i64 1, .int .u64 num, .int .i64 node, .string key, .bool true, .string old, .int .u64 prev, .slice na 0 nc, .slice ra 0 rc, .slice ga gn gc, .slice oa 0 oc, .slice da 0 dc] 31) := hb
          clear hy hb
          rename World => wb
          have z0 : wb.cell? ⟨w.heap.size, 0, none⟩ = some (.int .i64 1) := HB.out.cell 0
          have z1 : wb.cell? ⟨w.heap.size, 1, none⟩ = some (.int .u64 num) := HB.out.cell 1
          have z2 : wb.cell? ⟨w.heap.size, 2, none⟩ = some (.int .i64 node) := HB.out.cell 2
          have z3 : wb.cell? ⟨w.heap.size, 3, none⟩ = some (.string key) := HB.out.cell 3
          have z4 : wb.cell? ⟨w.heap.size, 4, none⟩ = some (.bool true) := HB.out.cell 4
          have z5 : wb.cell? ⟨w.heap.size, 5, none⟩ = some (.string old) := HB.out.cell 5
          have z6 : wb.cell? ⟨w.heap.size, 6, none⟩ = some (.int .u64 prev) := HB.out.cell 6
          have z7 : wb.cell? ⟨w.heap.size, 7, none⟩ = some (.slice na 0 nc) := HB.out.cell 7
          have z8 : wb.cell? ⟨w.heap.size, 8, none⟩ = some (.slice ra 0 rc) := HB.out.cell 8
          have z9 : wb.cell? ⟨w.heap.size, 9, none⟩ = some (.slice ga gn gc) := HB.out.cell 9
          have z10 : wb.cell? ⟨w.heap.size, 10, none⟩ = some (.slice oa 0 oc) := HB.out.cell 10
          have z11 : wb.cell? ⟨w.heap.size, 11, none⟩ = some (.slice da 0 dc) := HB.out.cell 11
          go_wp2
          clear z0 z1 z2 z3 z4 z5 z6 z7 z8 z9 z10 z11
          go_loopw [250] (fun i wr => i = .int .i64 0 ∧ Below w.heap.size w wr ∧ Blk wr w.heap.size #[.int .i64 1, .int .u64 num, .int .i64 node, .string key, .bool true, .string old, .int .u64 prev, .slice na 0 nc, .slice ra 0 rc, .slice ga gn gc, .slice oa 0 oc, .slice da 0 dc] 31) (fun _ _ => 0)
          case atStart => exact ⟨rfl, HY.out, HB.out⟩
          case round =>
            obtain ⟨rfl, hy, hb⟩ := hrel
            clear HY HB
            have HY : Hid (Below w.heap.size w wr) := hy
            have HB : Hid (Blk wr w.heap.size #[.int .i64 1, .int .u64 num, .int .i64 node, .string key, .bool true, .string old, .int .u64 prev, .slice na 0 nc, .slice ra 0 rc, .slice ga gn gc, .slice oa 0 oc, .slice da 0 dc] 31) := hb
            clear hy hb
            rename World => wc
            go_wp2
            go_ret
            exact ⟨rfl, HY.out⟩
  | false =>
    have ho5 : old.size = 0 := by rcases HFW.out with h | h; cases h; exact h
    have ho4 : ¬ 0 < old.size := by omega
    go_wp2
    clear z0 z1 z2 z3 z4 z5 z6 z7 z8 z9 z10 z11
    go_loopw [155] (fun i wr => ∃ k : Nat, i = .int .i64 (k : Int) ∧ k ≤ gn ∧ Below w.heap.size w wr ∧ Blk wr w.heap.size #[.int .i64 1, .int .u64 num, .int .i64 node, .string key, .bool false, .string old, .int .u64 prev, .slice na 0 nc, .slice ra 0 rc, .slice ga gn gc, .slice oa 0 oc, .slice da 0 dc] 31) (fun i _ => gn - (intOf i).toNat)
    case atStart => exact ⟨0, rfl, Nat.zero_le _, HY.out, HB.out⟩
    case round =>
      obtain ⟨k, rfl, hk, hy, hb⟩ := hrel
      clear HY HB
      have HY : Hid (Below w.heap.size w wr) := hy
      have HB : Hid (Blk wr w.heap.size #[.int .i64 1, .int .u64 num, .int .i64 node, .string key, .bool false, .string old, .int .u64 prev, .slice na 0 nc, .slice ra 0 rc, .slice ga gn gc, .slice oa 0 oc, .slice da 0 dc] 31) := hb
      clear hy hb
      by_cases hlt : k < gn
      · have hkl : k < gs.length := by rw [← HG.out.len.1]; exact hlt
        have hi2 : (k : Int) < (gn : Int) := by omega
        obtain ⟨ad, had⟩ := RowsN.adr HG.out (by omega)
        subst had
        have HH : Hid (RowsN wr 9 _ (.slice (some ad) _ _) gs) := HG.out.below HY.out
        have e0 : wr.cell? (ad.add (k * 9)) = some _ := HH.out.at0 hkl rfl
        have e1 : wr.cell? ⟨(ad.add (k * 9)).block, (ad.add (k * 9)).off + 1, none⟩ = some _ := HH.out.atS hkl 0 rfl
        have e2 : wr.cell? ⟨(ad.add (k * 9)).block, (ad.add (k * 9)).off + 2, none⟩ = some _ := HH.out.atS hkl 1 rfl
        have e3 : wr.cell? ⟨(ad.add (k * 9)).block, (ad.add (k * 9)).off + 3, none⟩ = some _ := HH.out.atS hkl 2 rfl
        have e4 : wr.cell? ⟨(ad.add (k * 9)).block, (ad.add (k * 9)).off + 4, none⟩ = some _ := HH.out.atS hkl 3 rfl
        have e5 : wr.cell? ⟨(ad.add (k * 9)).block, (ad.add (k * 9)).off + 5, none⟩ = some _ := HH.out.atS hkl 4 rfl
        have e6 : wr.cell? ⟨(ad.add (k * 9)).block, (ad.add (k * 9)).off + 6, none⟩ = some _ := HH.out.atS hkl 5 rfl
        have e7 : wr.cell? ⟨(ad.add (k * 9)).block, (ad.add (k * 9)).off + 7, none⟩ = some _ := HH.out.atS hkl 6 rfl
        have e8 : wr.cell? ⟨(ad.add (k * 9)).block, (ad.add (k * 9)).off + 8, none⟩ = some _ := HH.out.atS hkl 7 rfl
        obtain ⟨hr1, hr2⟩ := fits_at HGO.out hkl
        have HR1 : Hid (_ = true) := hr1
        have HR2 : Hid (∀ j (hj : j < gs.length), k = j + 1 → _ = true) := hr2
        have HQA : Hid (gs[k].At w) := HGA.out _ (List.getElem_mem hkl)
        clear hr1 hr2
        generalize gs[k] = q at *
        have HY' : Hid (Below w.heap.size w (wr.alloc (.cells #[.int .i64 q.n, .int .i64 q.p.kind, .slice q.ka q.kn q.kc, .slice q.va q.vn q.vc, .slice q.da q.dn q.dc, .int .i64 q.p.root, .int .i64 q.p.next, .int .i64 q.p.size, .int .i64 q.p.idle] 49))) := HY.out.alloc HY.out.size _
        have HB' : Hid (Blk (wr.alloc (.cells #[.int .i64 q.n, .int .i64 q.p.kind, .slice q.ka q.kn q.kc, .slice q.va q.vn q.vc, .slice q.da q.dn q.dc, .int .i64 q.p.root, .int .i64 q.p.next, .int .i64 q.p.size, .int .i64 q.p.idle] 49)) w.heap.size #[.int .i64 1, .int .u64 num, .int .i64 node, .string key, .bool false, .string old, .int .u64 prev, .slice na 0 nc, .slice ra 0 rc, .slice (some ad) gn gc, .slice oa 0 oc, .slice da 0 dc] 31) := HB.out.alloc _
        have HQ : Hid (Blk (wr.alloc (.cells #[.int .i64 q.n, .int .i64 q.p.kind, .slice q.ka q.kn q.kc, .slice q.va q.vn q.vc, .slice q.da q.dn q.dc, .int .i64 q.p.root, .int .i64 q.p.next, .int .i64 q.p.size, .int .i64 q.p.idle] 49)) wr.heap.size #[.int .i64 q.n, .int .i64 q.p.kind, .slice q.ka q.kn q.kc, .slice q.va q.vn q.vc, .slice q.da q.dn q.dc, .int .i64 q.p.root, .int .i64 q.p.next, .int .i64 q.p.size, .int .i64 q.p.idle] 49) := Blk.new _ _ _
        have HH' : Hid (RowsN (wr.alloc (.cells #[.int .i64 q.n, .int .i64 q.p.kind, .slice q.ka q.kn q.kc, .slice q.va q.vn q.vc, .slice q.da q.dn q.dc, .int .i64 q.p.root, .int .i64 q.p.next, .int .i64 q.p.size, .int .i64 q.p.idle] 49)) 9 _ (.slice (some ad) _ _) gs) := HH.out.below (below_allocR _)
        go_upto_region 13 with fail
        clear e0 e1 e2 e3 e4 e5 e6 e7 e8 HH HY HB
        generalize (wr.alloc (.cells #[.int .i64 q.n, .int .i64 q.p.kind, .slice q.ka q.kn q.kc, .slice q.va q.vn q.vc, .slice q.da q.dn q.dc, .int .i64 q.p.root, .int .i64 q.p.next, .int .i64 q.p.size, .int .i64 q.p.idle] 49)) = y0 at *
        obtain ⟨b, hbb⟩ : ∃ b, wr.heap.size = b := ⟨_, rfl⟩
        rw [hbb] at HQ ⊢
        clear hbb
        rcases (show k = 0 ∨ ∃ m, k = m + 1 from by cases k; exact .inl rfl; exact .inr ⟨_, rfl⟩) with hk0 | ⟨m, hm⟩
        · have hk1 : ¬ 0 < k := by omega
          have hk2 : ¬ (0 : Int) < (k : Int) := by omega
          have hk5 : decide ((0 : Int) < (k : Int)) = false := decide_eq_false hk2
          clear HR2 HH' hk0
          obtain ⟨hn0, hn1⟩ := (chg_parts HR1.out).1
          have hn2 : ¬ q.n < 0 := by omega
          have hn3 : ¬ 65535 < q.n := by omega
          have HPR : Hid (rightPg q.p = true) := (chg_parts HR1.out).2
          refine wp_region_ext (by kernel_rfl) ?_
          haveI nA := cls_ext y0.drew
          have u0 := cellX (W0 := y0.drew) (show y0.drew.cell? ⟨b, 0, none⟩ = some (.int .i64 q.n) from (Blk.of HQ.out ((Below.drew (Below.refl _ y0)).block _ HQ.out.lt)).cell 0)
          have u1 := cellX (W0 := y0.drew) (show y0.drew.cell? ⟨b, 1, none⟩ = some (.int .i64 q.p.kind) from (Blk.of HQ.out ((Below.drew (Below.refl _ y0)).block _ HQ.out.lt)).cell 1)
          have u2 := cellX (W0 := y0.drew) (show y0.drew.cell? ⟨b, 2, none⟩ = some (.slice q.ka q.kn q.kc) from (Blk.of HQ.out ((Below.drew (Below.refl _ y0)).block _ HQ.out.lt)).cell 2)
          have u3 := cellX (W0 := y0.drew) (show y0.drew.cell? ⟨b, 3, none⟩ = some (.slice q.va q.vn q.vc) from (Blk.of HQ.out ((Below.drew (Below.refl _ y0)).block _ HQ.out.lt)).cell 3)
          have u4 := cellX (W0 := y0.drew) (show y0.drew.cell? ⟨b, 4, none⟩ = some (.slice q.da q.dn q.dc) from (Blk.of HQ.out ((Below.drew (Below.refl _ y0)).block _ HQ.out.lt)).cell 4)
          have u5 := cellX (W0 := y0.drew) (show y0.drew.cell? ⟨b, 5, none⟩ = some (.int .i64 q.p.root) from (Blk.of HQ.out ((Below.drew (Below.refl _ y0)).block _ HQ.out.lt)).cell 5)
          have u6 := cellX (W0 := y0.drew) (show y0.drew.cell? ⟨b, 6, none⟩ = some (.int .i64 q.p.next) from (Blk.of HQ.out ((Below.drew (Below.refl _ y0)).block _ HQ.out.lt)).cell 6)
          have u7 := cellX (W0 := y0.drew) (show y0.drew.cell? ⟨b, 7, none⟩ = some (.int .i64 q.p.size) from (Blk.of HQ.out ((Below.drew (Below.refl _ y0)).block _ HQ.out.lt)).cell 7)
          have u8 := cellX (W0 := y0.drew) (show y0.drew.cell? ⟨b, 8, none⟩ = some (.int .i64 q.p.idle) from (Blk.of HQ.out ((Below.drew (Below.refl _ y0)).block _ HQ.out.lt)).cell 8)
          have HYr : Hid (Below y0.heap.size y0 y0.drew) := Below.drew (Below.refl _ _)
          refine wpAnyH_seg (by kernel_rfl) (fun _ _ _ h => h) [0, 1, 2, 3, 4, 5, 6, 7, 8, 9, 10] 19 _ _ _ (Ext.refl _) (by kernel_rfl) ?_
          simp only [opsAt, List.getElem?_toArray, List.getElem?_cons_zero, List.getElem?_cons_succ, List.cons_append, List.nil_append]
          repeat (go_big_quiet_step (fail))
          refine wpQuiet_nil ?_
          clear nA u0 u1 u2 u3 u4 u5 u6 u7 u8
          refine wpAnyH_callE (i := 11) (fuel := 18) 171 rfl (by kernel_rfl) rfl (Ext.refl _) (by kernel_rfl) (f := 25) (args := #[.agg #[.int .i64 q.p.kind, .slice q.ka q.kn q.kc, .slice q.va q.vn q.vc, .slice q.da q.dn q.dc, .int .i64 q.p.root, .int .i64 q.p.next, .int .i64 q.p.size, .int .i64 q.p.idle]]) (by kernel_rfl) (page_ok q.p _ _ _ y0.drew (((HQA.out.below HY'.out).below HYr.out).rd) HQA.out.ok HPR.out) ?_
          rintro e x1 ⟨rfl, y⟩
          refine ⟨_, rfl, y, ?_⟩
          have HYr' : Hid (Below y0.heap.size y0 x1) := ext_trans HYr.out y
          clear HYr y
          have HYr := HYr'
          clear HYr'
          simp only [Act.put, List.setIfInBounds_toArray, List.set_cons_succ, List.set_cons_zero]
          haveI nA := cls_ext x1
          have u0 := cellX (W0 := x1) (show x1.cell? ⟨b, 0, none⟩ = some (.int .i64 q.n) from (Blk.of HQ.out (HYr.out.block _ HQ.out.lt)).cell 0)
          have u1 := cellX (W0 := x1) (show x1.cell? ⟨b, 1, none⟩ = some (.int .i64 q.p.kind) from (Blk.of HQ.out (HYr.out.block _ HQ.out.lt)).cell 1)
          have u2 := cellX (W0 := x1) (show x1.cell? ⟨b, 2, none⟩ = some (.slice q.ka q.kn q.kc) from (Blk.of HQ.out (HYr.out.block _ HQ.out.lt)).cell 2)
          have u3 := cellX (W0 := x1) (show x1.cell? ⟨b, 3, none⟩ = some (.slice q.va q.vn q.vc) from (Blk.of HQ.out (HYr.out.block _ HQ.out.lt)).cell 3)
          have u4 := cellX (W0 := x1) (show x1.cell? ⟨b, 4, none⟩ = some (.slice q.da q.dn q.dc) from (Blk.of HQ.out (HYr.out.block _ HQ.out.lt)).cell 4)
          have u5 := cellX (W0 := x1) (show x1.cell? ⟨b, 5, none⟩ = some (.int .i64 q.p.root) from (Blk.of HQ.out (HYr.out.block _ HQ.out.lt)).cell 5)
          have u6 := cellX (W0 := x1) (show x1.cell? ⟨b, 6, none⟩ = some (.int .i64 q.p.next) from (Blk.of HQ.out (HYr.out.block _ HQ.out.lt)).cell 6)
          have u7 := cellX (W0 := x1) (show x1.cell? ⟨b, 7, none⟩ = some (.int .i64 q.p.size) from (Blk.of HQ.out (HYr.out.block _ HQ.out.lt)).cell 7)
          have u8 := cellX (W0 := x1) (show x1.cell? ⟨b, 8, none⟩ = some (.int .i64 q.p.idle) from (Blk.of HQ.out (HYr.out.block _ HQ.out.lt)).cell 8)
          refine wpAnyH_seg (by kernel_rfl) (fun _ _ _ h => h) [12, 13, 14, 15, 16, 17, 18, 19, 20, 21, 22, 23, 24, 25, 26, 27, 28, 29] 0 _ _ _ (Ext.refl _) (by kernel_rfl) ?_
          simp only [opsAt, List.getElem?_toArray, List.getElem?_cons_zero, List.getElem?_cons_succ, List.cons_append, List.nil_append]
          repeat (go_big_quiet_step (fail))
          refine wpQuiet_nil ?_
          clear nA u0 u1 u2 u3 u4 u5 u6 u7 u8
          refine wpAnyH_done (by kernel_rfl) (NoPanic.normal ?_) 0
          have HYZ : Hid (Below w.heap.size w x1) := ext_trans HY'.out HYr.out
          have HBZ : Hid (Blk x1 w.heap.size #[.int .i64 1, .int .u64 num, .int .i64 node, .string key, .bool false, .string old, .int .u64 prev, .slice na 0 nc, .slice ra 0 rc, .slice (some ad) gn gc, .slice oa 0 oc, .slice da 0 dc] 31) := Blk.of HB'.out (HYr.out.block _ HB'.out.lt)
          go_wp2
          go_roundw
          case rel => exact ⟨k + 1, by go_num, by omega, HYZ.out, HBZ.out⟩
          case measure => simp [intOf]; omega
        · have hml : m < gs.length := by omega
          have HA2 : Hid (_ = true) := HR2.out m hml hm
          have hk1 : 0 < k := by omega
          have hk2 : (0 : Int) < (k : Int) := by omega
          have hk5 : decide ((0 : Int) < (k : Int)) = true := decide_eq_true hk2
          have hk3 : (k : Int) - 1 = (m : Int) := by omega
          have hk4 : m < gn := by omega
          have HM0 : Hid (∀ W, Below y0.heap.size y0 W → W.cell? (ad.add (m * 9)) = some (.int .i64 gs[m].n)) := fun W hW => (HH'.out.below hW).at0 hml rfl
          clear HH'
          obtain ⟨hn0, hn1⟩ := (chg_parts HR1.out).1
          have hn2 : ¬ q.n < 0 := by omega
          have hn3 : ¬ 65535 < q.n := by omega
          have HPR : Hid (rightPg q.p = true) := (chg_parts HR1.out).2
          have hn4 : (gs[m]).n < q.n := by have h := HA2.out; unfold chgLt ltI at h; exact of_decide_eq_true h
          have hn5 : ¬ q.n ≤ (gs[m]).n := by omega
          generalize gs[m] = m0 at *
          clear HR2 hm hml
          refine wp_region_ext (by kernel_rfl) ?_
          haveI nA := cls_ext y0.drew
          have u0 := cellX (W0 := y0.drew) (show y0.drew.cell? ⟨b, 0, none⟩ = some (.int .i64 q.n) from (Blk.of HQ.out ((Below.drew (Below.refl _ y0)).block _ HQ.out.lt)).cell 0)
          have u1 := cellX (W0 := y0.drew) (show y0.drew.cell? ⟨b, 1, none⟩ = some (.int .i64 q.p.kind) from (Blk.of HQ.out ((Below.drew (Below.refl _ y0)).block _ HQ.out.lt)).cell 1)
          have u2 := cellX (W0 := y0.drew) (show y0.drew.cell? ⟨b, 2, none⟩ = some (.slice q.ka q.kn q.kc) from (Blk.of HQ.out ((Below.drew (Below.refl _ y0)).block _ HQ.out.lt)).cell 2)
          have u3 := cellX (W0 := y0.drew) (show y0.drew.cell? ⟨b, 3, none⟩ = some (.slice q.va q.vn q.vc) from (Blk.of HQ.out ((Below.drew (Below.refl _ y0)).block _ HQ.out.lt)).cell 3)
          have u4 := cellX (W0 := y0.drew) (show y0.drew.cell? ⟨b, 4, none⟩ = some (.slice q.da q.dn q.dc) from (Blk.of HQ.out ((Below.drew (Below.refl _ y0)).block _ HQ.out.lt)).cell 4)
          have u5 := cellX (W0 := y0.drew) (show y0.drew.cell? ⟨b, 5, none⟩ = some (.int .i64 q.p.root) from (Blk.of HQ.out ((Below.drew (Below.refl _ y0)).block _ HQ.out.lt)).cell 5)
          have u6 := cellX (W0 := y0.drew) (show y0.drew.cell? ⟨b, 6, none⟩ = some (.int .i64 q.p.next) from (Blk.of HQ.out ((Below.drew (Below.refl _ y0)).block _ HQ.out.lt)).cell 6)
          have u7 := cellX (W0 := y0.drew) (show y0.drew.cell? ⟨b, 7, none⟩ = some (.int .i64 q.p.size) from (Blk.of HQ.out ((Below.drew (Below.refl _ y0)).block _ HQ.out.lt)).cell 7)
          have u8 := cellX (W0 := y0.drew) (show y0.drew.cell? ⟨b, 8, none⟩ = some (.int .i64 q.p.idle) from (Blk.of HQ.out ((Below.drew (Below.refl _ y0)).block _ HQ.out.lt)).cell 8)
          have p9 := cellX (W0 := y0.drew) (show y0.drew.cell? ⟨w.heap.size, 9, none⟩ = some (.slice (some ad) gn gc) from (Blk.of HB'.out ((Below.drew (Below.refl _ y0)).block _ HB'.out.lt)).cell 9)
          have m9 := cellX (W0 := y0.drew) (HM0.out _ (Below.drew (Below.refl _ y0)))
          have HYr : Hid (Below y0.heap.size y0 y0.drew) := Below.drew (Below.refl _ _)
          refine wpAnyH_seg (by kernel_rfl) (fun _ _ _ h => h) [0, 1, 2, 3, 4, 5, 6, 7, 8, 9, 10] 19 _ _ _ (Ext.refl _) (by kernel_rfl) ?_
          simp only [opsAt, List.getElem?_toArray, List.getElem?_cons_zero, List.getElem?_cons_succ, List.cons_append, List.nil_append]
          repeat (go_big_quiet_step (fail))
          refine wpQuiet_nil ?_
          clear nA u0 u1 u2 u3 u4 u5 u6 u7 u8 p9 m9
          refine wpAnyH_callE (i := 11) (fuel := 18) 171 rfl (by kernel_rfl) rfl (Ext.refl _) (by kernel_rfl) (f := 25) (args := #[.agg #[.int .i64 q.p.kind, .slice q.ka q.kn q.kc, .slice q.va q.vn q.vc, .slice q.da q.dn q.dc, .int .i64 q.p.root, .int .i64 q.p.next, .int .i64 q.p.size, .int .i64 q.p.idle]]) (by kernel_rfl) (page_ok q.p _ _ _ y0.drew (((HQA.out.below HY'.out).below HYr.out).rd) HQA.out.ok HPR.out) ?_
          rintro e x1 ⟨rfl, y⟩
          refine ⟨_, rfl, y, ?_⟩
          have HYr' : Hid (Below y0.heap.size y0 x1) := ext_trans HYr.out y
          clear HYr y
          have HYr := HYr'
          clear HYr'
          simp only [Act.put, List.setIfInBounds_toArray, List.set_cons_succ, List.set_cons_zero]
          haveI nA := cls_ext x1
          have u0 := cellX (W0 := x1) (show x1.cell? ⟨b, 0, none⟩ = some (.int .i64 q.n) from (Blk.of HQ.out (HYr.out.block _ HQ.out.lt)).cell 0)
          have u1 := cellX (W0 := x1) (show x1.cell? ⟨b, 1, none⟩ = some (.int .i64 q.p.kind) from (Blk.of HQ.out (HYr.out.block _ HQ.out.lt)).cell 1)
          have u2 := cellX (W0 := x1) (show x1.cell? ⟨b, 2, none⟩ = some (.slice q.ka q.kn q.kc) from (Blk.of HQ.out (HYr.out.block _ HQ.out.lt)).cell 2)
          have u3 := cellX (W0 := x1) (show x1.cell? ⟨b, 3, none⟩ = some (.slice q.va q.vn q.vc) from (Blk.of HQ.out (HYr.out.block _ HQ.out.lt)).cell 3)
          have u4 := cellX (W0 := x1) (show x1.cell? ⟨b, 4, none⟩ = some (.slice q.da q.dn q.dc) from (Blk.of HQ.out (HYr.out.block _ HQ.out.lt)).cell 4)
          have u5 := cellX (W0 := x1) (show x1.cell? ⟨b, 5, none⟩ = some (.int .i64 q.p.root) from (Blk.of HQ.out (HYr.out.block _ HQ.out.lt)).cell 5)
          have u6 := cellX (W0 := x1) (show x1.cell? ⟨b, 6, none⟩ = some (.int .i64 q.p.next) from (Blk.of HQ.out (HYr.out.block _ HQ.out.lt)).cell 6)
          have u7 := cellX (W0 := x1) (show x1.cell? ⟨b, 7, none⟩ = some (.int .i64 q.p.size) from (Blk.of HQ.out (HYr.out.block _ HQ.out.lt)).cell 7)
          have u8 := cellX (W0 := x1) (show x1.cell? ⟨b, 8, none⟩ = some (.int .i64 q.p.idle) from (Blk.of HQ.out (HYr.out.block _ HQ.out.lt)).cell 8)
          have p9 := cellX (W0 := x1) (show x1.cell? ⟨w.heap.size, 9, none⟩ = some (.slice (some ad) gn gc) from (Blk.of HB'.out (HYr.out.block _ HB'.out.lt)).cell 9)
          have m9 := cellX (W0 := x1) (HM0.out _ HYr.out)
          refine wpAnyH_seg (by kernel_rfl) (fun _ _ _ h => h) [12, 13, 14, 15, 16, 17, 18, 19, 20, 21, 22, 23, 24, 25, 26, 27, 28, 29] 0 _ _ _ (Ext.refl _) (by kernel_rfl) ?_
          simp only [opsAt, List.getElem?_toArray, List.getElem?_cons_zero, List.getElem?_cons_succ, List.cons_append, List.nil_append]
          repeat (go_big_quiet_step (fail))
          refine wpQuiet_nil ?_
          clear nA u0 u1 u2 u3 u4 u5 u6 u7 u8 p9 m9
          refine wpAnyH_done (by kernel_rfl) (NoPanic.normal ?_) 0
          have HYZ : Hid (Below w.heap.size w x1) := ext_trans HY'.out HYr.out
          have HBZ : Hid (Blk x1 w.heap.size #[.int .i64 1, .int .u64 num, .int .i64 node, .string key, .bool false, .string old, .int .u64 prev, .slice na 0 nc, .slice ra 0 rc, .slice (some ad) gn gc, .slice oa 0 oc, .slice da 0 dc] 31) := Blk.of HB'.out (HYr.out.block _ HB'.out.lt)
          go_wp2
          go_roundw
          case rel => exact ⟨k + 1, by go_num, by omega, HYZ.out, HBZ.out⟩
          case measure => simp [intOf]; omega
      · clear hk
        rename World => wa
        have z0 : wa.cell? ⟨w.heap.size, 0, none⟩ = some (.int .i64 1) := HB.out.cell 0
        have z1 : wa.cell? ⟨w.heap.size, 1, none⟩ = some (.int .u64 num) := HB.out.cell 1
        have z2 : wa.cell? ⟨w.heap.size, 2, none⟩ = some (.int .i64 node) := HB.out.cell 2
        have z3 : wa.cell? ⟨w.heap.size, 3, none⟩ = some (.string key) := HB.out.cell 3
        have z4 : wa.cell? ⟨w.heap.size, 4, none⟩ = some (.bool false) := HB.out.cell 4
        have z5 : wa.cell? ⟨w.heap.size, 5, none⟩ = some (.string old) := HB.out.cell 5
        have z6 : wa.cell? ⟨w.heap.size, 6, none⟩ = some (.int .u64 prev) := HB.out.cell 6
        have z7 : wa.cell? ⟨w.heap.size, 7, none⟩ = some (.slice na 0 nc) := HB.out.cell 7
        have z8 : wa.cell? ⟨w.heap.size, 8, none⟩ = some (.slice ra 0 rc) := HB.out.cell 8
        have z9 : wa.cell? ⟨w.heap.size, 9, none⟩ = some (.slice ga gn gc) := HB.out.cell 9
        have z10 : wa.cell? ⟨w.heap.size, 10, none⟩ = some (.slice oa 0 oc) := HB.out.cell 10
        have z11 : wa.cell? ⟨w.heap.size, 11, none⟩ = some (.slice da 0 dc) := HB.out.cell 11
        go_wp2
        clear z0 z1 z2 z3 z4 z5 z6 z7 z8 z9 z10 z11
        go_loopw [194] (fun i wr => i = .int .i64 0 ∧ Below w.heap.size w wr ∧ Blk wr w.heap.size #[.int .i64 1, .int .u64 num, .int .i64 node, .string key, .bool false, .string old, .int .u64 prev, .slice na 0 nc, .slice ra 0 rc, .slice ga gn gc, .slice oa 0 oc, .slice da 0 dc] 31) (fun _ _ => 0)
        case atStart => exact ⟨rfl, HY.out, HB.out⟩
        case round =>
          obtain ⟨rfl, hy, hb⟩ := hrel
          clear HY HB
          have HY : Hid (Below w.heap.size w wr) := hy
          have HB : Hid (Blk wr w.heap.size #[.int .i64 1, .int .u64 num, .int .i64 node, .string key, .bool false, .string old, .int .u64 prev, .slice na 0 nc, .slice ra 0 rc, .slice ga gn gc, .slice oa 0 oc, .slice da 0 dc] 31) := hb
          clear hy hb
          rename World => wb
          have z0 : wb.cell? ⟨w.heap.size, 0, none⟩ = some (.int .i64 1) := HB.out.cell 0
          have z1 : wb.cell? ⟨w.heap.size, 1, none⟩ = some (.int .u64 num) := HB.out.cell 1
          have z2 : wb.cell? ⟨w.heap.size, 2, none⟩ = some (.int .i64 node) := HB.out.cell 2
          have z3 : wb.cell? ⟨w.heap.size, 3, none⟩ = some (.string key) := HB.out.cell 3
          have z4 : wb.cell? ⟨w.heap.size, 4, none⟩ = some (.bool false) := HB.out.cell 4
          have z5 : wb.cell? ⟨w.heap.size, 5, none⟩ = some (.string old) := HB.out.cell 5
          have z6 : wb.cell? ⟨w.heap.size, 6, none⟩ = some (.int .u64 prev) := HB.out.cell 6
          have z7 : wb.cell? ⟨w.heap.size, 7, none⟩ = some (.slice na 0 nc) := HB.out.cell 7
          have z8 : wb.cell? ⟨w.heap.size, 8, none⟩ = some (.slice ra 0 rc) := HB.out.cell 8
          have z9 : wb.cell? ⟨w.heap.size, 9, none⟩ = some (.slice ga gn gc) := HB.out.cell 9
          have z10 : wb.cell? ⟨w.heap.size, 10, none⟩ = some (.slice oa 0 oc) := HB.out.cell 10
          have z11 : wb.cell? ⟨w.heap.size, 11, none⟩ = some (.slice da 0 dc) := HB.out.cell 11
          go_wp2
          clear z0 z1 z2 z3 z4 z5 z6 z7 z8 z9 z10 z11
          go_loopw [250] (fun i wr => i = .int .i64 0 ∧ Below w.heap.size w wr ∧ Blk wr w.heap.size #[.int .i64 1, .int .u64 num, .int .i64 node, .string key, .bool false, .string old, .int .u64 prev, .slice na 0 nc, .slice ra 0 rc, .slice ga gn gc, .slice oa 0 oc, .slice da 0 dc] 31) (fun _ _ => 0)
          case atStart => exact ⟨rfl, HY.out, HB.out⟩
          case round =>
            obtain ⟨rfl, hy, hb⟩ := hrel
            clear HY HB
            have HY : Hid (Below w.heap.size w wr) := hy
            have HB : Hid (Blk wr w.heap.size #[.int .i64 1, .int .u64 num, .int .i64 node, .string key, .bool false, .string old, .int .u64 prev, .slice na 0 nc, .slice ra 0 rc, .slice ga gn gc, .slice oa 0 oc, .slice da 0 dc] 31) := hb
            clear hy hb
            rename World => wc
            go_wp2
            go_ret
            exact ⟨rfl, HY.out⟩

set_option maxRecDepth 100000 in
set_option maxHeartbeats 8000000 in
theorem right11_8 (na : Option Addr) (nc : Nat) (ra : Option Addr) (rc : Nat) (ga : Option Addr) (gc : Nat) (oa : Option Addr) (om : Nat) (oc : Nat) (da : Option Addr) (dn : Nat) (dc : Nat) (ns : List Int) (rs : List ByteArray) (gs : List ChgV) (os : List OpenV) (ds : List DoneV) (w : World) (htid : tidOk (0 : Int) 0 = true) (hns : Rd w (.slice na 0 nc) (iv ns)) (hnk : nodesOk ns = true) (hrs : Rd w (.slice ra 0 rc) (sv rs)) (hrk : readsOk rs = true) (ho : RowsN w 7 OpenV.c (.slice oa om oc) os) (hoa : ∀ c ∈ os, c.At w) (hoo : fitsB openOk openLt noOpen 200 os = true) (hd : RowsN w 3 DoneV.c (.slice da dn dc) ds) (hda : ∀ c ∈ ds, c.At w) (hdo : fitsB doneOk doneLt noDone 200 ds = true) :
    Calls Tryz.prog 10 #[.agg #[.int .i64 8, .int .u64 0, .int .i64 0, .string (⟨#[]⟩ : ByteArray), .bool false, .string (⟨#[]⟩ : ByteArray), .int .u64 0, .slice na 0 nc, .slice ra 0 rc, .slice ga 0 gc, .slice oa om oc, .slice da dn dc]] w (OkP w) := by
  have HNS : Hid (Rd w (.slice na 0 nc) (iv ns) ∧ nodesOk ns = true) := ⟨hns, hnk⟩
  have HRS : Hid (Rd w (.slice ra 0 rc) (sv rs) ∧ readsOk rs = true) := ⟨hrs, hrk⟩
  have HTI : Hid (tidOk (0 : Int) 0 = true) := htid
  have HO : Hid (RowsN w 7 OpenV.c (.slice oa om oc) os) := ho
  have HOA : Hid (∀ c ∈ os, c.At w) := hoa
  have HOO : Hid (fitsB openOk openLt noOpen 200 os = true) := hoo
  have hom : om ≤ 200 := by have h1 := ho.len.1; have h2 := (fits_mem hoo).1; omega
  have HD : Hid (RowsN w 3 DoneV.c (.slice da dn dc) ds) := hd
  have HDA : Hid (∀ c ∈ ds, c.At w) := hda
  have HDO : Hid (fitsB doneOk doneLt noDone 200 ds = true) := hdo
  have hdm : dn ≤ 200 := by have h1 := hd.len.1; have h2 := (fits_mem hdo).1; omega
  clear ho hoa hoo hd hda hdo
  clear htid hns hnk hrs hrk
  have HB : Hid (Blk (w.alloc (.cells #[.int .i64 8, .int .u64 0, .int .i64 0, .string (⟨#[]⟩ : ByteArray), .bool false, .string (⟨#[]⟩ : ByteArray), .int .u64 0, .slice na 0 nc, .slice ra 0 rc, .slice ga 0 gc, .slice oa om oc, .slice da dn dc] 31)) w.heap.size #[.int .i64 8, .int .u64 0, .int .i64 0, .string (⟨#[]⟩ : ByteArray), .bool false, .string (⟨#[]⟩ : ByteArray), .int .u64 0, .slice na 0 nc, .slice ra 0 rc, .slice ga 0 gc, .slice oa om oc, .slice da dn dc] 31) := Blk.new _ _ _
  have HY : Hid (Below w.heap.size w (w.alloc (.cells #[.int .i64 8, .int .u64 0, .int .i64 0, .string (⟨#[]⟩ : ByteArray), .bool false, .string (⟨#[]⟩ : ByteArray), .int .u64 0, .slice na 0 nc, .slice ra 0 rc, .slice ga 0 gc, .slice oa om oc, .slice da dn dc] 31))) := (Below.refl _ _).alloc (Nat.le_refl _) _
  go_enter Tryz.func10, Tryz.ntmps10
  go_upto_region 1 with fail
  generalize (w.alloc (.cells #[.int .i64 8, .int .u64 0, .int .i64 0, .string (⟨#[]⟩ : ByteArray), .bool false, .string (⟨#[]⟩ : ByteArray), .int .u64 0, .slice na 0 nc, .slice ra 0 rc, .slice ga 0 gc, .slice oa om oc, .slice da dn dc] 31)) = w0 at *
  have z0 : w0.cell? ⟨w.heap.size, 0, none⟩ = some (.int .i64 8) := HB.out.cell 0
  have z1 : w0.cell? ⟨w.heap.size, 1, none⟩ = some (.int .u64 0) := HB.out.cell 1
  have z2 : w0.cell? ⟨w.heap.size, 2, none⟩ = some (.int .i64 0) := HB.out.cell 2
  have z3 : w0.cell? ⟨w.heap.size, 3, none⟩ = some (.string (⟨#[]⟩ : ByteArray)) := HB.out.cell 3
  have z4 : w0.cell? ⟨w.heap.size, 4, none⟩ = some (.bool false) := HB.out.cell 4
  have z5 : w0.cell? ⟨w.heap.size, 5, none⟩ = some (.string (⟨#[]⟩ : ByteArray)) := HB.out.cell 5
  have z6 : w0.cell? ⟨w.heap.size, 6, none⟩ = some (.int .u64 0) := HB.out.cell 6
  have z7 : w0.cell? ⟨w.heap.size, 7, none⟩ = some (.slice na 0 nc) := HB.out.cell 7
  have z8 : w0.cell? ⟨w.heap.size, 8, none⟩ = some (.slice ra 0 rc) := HB.out.cell 8
  have z9 : w0.cell? ⟨w.heap.size, 9, none⟩ = some (.slice ga 0 gc) := HB.out.cell 9
  have z10 : w0.cell? ⟨w.heap.size, 10, none⟩ = some (.slice oa om oc) := HB.out.cell 10
  have z11 : w0.cell? ⟨w.heap.size, 11, none⟩ = some (.slice da dn dc) := HB.out.cell 11
  go_wp2_with fail
  refine (tid_ok 0 0 w0 HTI.out).mono ?_
  rintro e w1 ⟨rfl, y⟩
  have HB' : Hid (Blk w1 w.heap.size #[.int .i64 8, .int .u64 0, .int .i64 0, .string (⟨#[]⟩ : ByteArray), .bool false, .string (⟨#[]⟩ : ByteArray), .int .u64 0, .slice na 0 nc, .slice ra 0 rc, .slice ga 0 gc, .slice oa om oc, .slice da dn dc] 31) := Blk.of HB.out (y.block _ HB.out.lt)
  have HY' : Hid (Below w.heap.size w w1) := ext_trans HY.out y
  clear HB HY y
  clear z0 z1 z2 z3 z4 z5 z6 z7 z8 z9 z10 z11
  have HB := HB'
  have HY := HY'
  clear HB' HY'
  have z0 : w1.cell? ⟨w.heap.size, 0, none⟩ = some (.int .i64 8) := HB.out.cell 0
  have z1 : w1.cell? ⟨w.heap.size, 1, none⟩ = some (.int .u64 0) := HB.out.cell 1
  have z2 : w1.cell? ⟨w.heap.size, 2, none⟩ = some (.int .i64 0) := HB.out.cell 2
  have z3 : w1.cell? ⟨w.heap.size, 3, none⟩ = some (.string (⟨#[]⟩ : ByteArray)) := HB.out.cell 3
  have z4 : w1.cell? ⟨w.heap.size, 4, none⟩ = some (.bool false) := HB.out.cell 4
  have z5 : w1.cell? ⟨w.heap.size, 5, none⟩ = some (.string (⟨#[]⟩ : ByteArray)) := HB.out.cell 5
  have z6 : w1.cell? ⟨w.heap.size, 6, none⟩ = some (.int .u64 0) := HB.out.cell 6
  have z7 : w1.cell? ⟨w.heap.size, 7, none⟩ = some (.slice na 0 nc) := HB.out.cell 7
  have z8 : w1.cell? ⟨w.heap.size, 8, none⟩ = some (.slice ra 0 rc) := HB.out.cell 8
  have z9 : w1.cell? ⟨w.heap.size, 9, none⟩ = some (.slice ga 0 gc) := HB.out.cell 9
  have z10 : w1.cell? ⟨w.heap.size, 10, none⟩ = some (.slice oa om oc) := HB.out.cell 10
  have z11 : w1.cell? ⟨w.heap.size, 11, none⟩ = some (.slice da dn dc) := HB.out.cell 11
  go_wp2_with fail
  refine (rising_ok _ ns w1 (HNS.out.1.below HY.out) HNS.out.2).mono ?_
  rintro e w2 ⟨rfl, y⟩
  have HB' : Hid (Blk w2 w.heap.size #[.int .i64 8, .int .u64 0, .int .i64 0, .string (⟨#[]⟩ : ByteArray), .bool false, .string (⟨#[]⟩ : ByteArray), .int .u64 0, .slice na 0 nc, .slice ra 0 rc, .slice ga 0 gc, .slice oa om oc, .slice da dn dc] 31) := Blk.of HB.out (y.block _ HB.out.lt)
  have HY' : Hid (Below w.heap.size w w2) := ext_trans HY.out y
  clear HB HY y
  clear z0 z1 z2 z3 z4 z5 z6 z7 z8 z9 z10 z11
  have HB := HB'
  have HY := HY'
  clear HB' HY'
  have z0 : w2.cell? ⟨w.heap.size, 0, none⟩ = some (.int .i64 8) := HB.out.cell 0
  have z1 : w2.cell? ⟨w.heap.size, 1, none⟩ = some (.int .u64 0) := HB.out.cell 1
  have z2 : w2.cell? ⟨w.heap.size, 2, none⟩ = some (.int .i64 0) := HB.out.cell 2
  have z3 : w2.cell? ⟨w.heap.size, 3, none⟩ = some (.string (⟨#[]⟩ : ByteArray)) := HB.out.cell 3
  have z4 : w2.cell? ⟨w.heap.size, 4, none⟩ = some (.bool false) := HB.out.cell 4
  have z5 : w2.cell? ⟨w.heap.size, 5, none⟩ = some (.string (⟨#[]⟩ : ByteArray)) := HB.out.cell 5
  have z6 : w2.cell? ⟨w.heap.size, 6, none⟩ = some (.int .u64 0) := HB.out.cell 6
  have z7 : w2.cell? ⟨w.heap.size, 7, none⟩ = some (.slice na 0 nc) := HB.out.cell 7
  have z8 : w2.cell? ⟨w.heap.size, 8, none⟩ = some (.slice ra 0 rc) := HB.out.cell 8
  have z9 : w2.cell? ⟨w.heap.size, 9, none⟩ = some (.slice ga 0 gc) := HB.out.cell 9
  have z10 : w2.cell? ⟨w.heap.size, 10, none⟩ = some (.slice oa om oc) := HB.out.cell 10
  have z11 : w2.cell? ⟨w.heap.size, 11, none⟩ = some (.slice da dn dc) := HB.out.cell 11
  go_wp2_with fail
  refine (keys_ok _ rs w2 (HRS.out.1.below HY.out) HRS.out.2).mono ?_
  rintro e w3 ⟨rfl, y⟩
  have HB' : Hid (Blk w3 w.heap.size #[.int .i64 8, .int .u64 0, .int .i64 0, .string (⟨#[]⟩ : ByteArray), .bool false, .string (⟨#[]⟩ : ByteArray), .int .u64 0, .slice na 0 nc, .slice ra 0 rc, .slice ga 0 gc, .slice oa om oc, .slice da dn dc] 31) := Blk.of HB.out (y.block _ HB.out.lt)
  have HY' : Hid (Below w.heap.size w w3) := ext_trans HY.out y
  clear HB HY y
  clear z0 z1 z2 z3 z4 z5 z6 z7 z8 z9 z10 z11
  have HB := HB'
  have HY := HY'
  clear HB' HY'
  have z0 : w3.cell? ⟨w.heap.size, 0, none⟩ = some (.int .i64 8) := HB.out.cell 0
  have z1 : w3.cell? ⟨w.heap.size, 1, none⟩ = some (.int .u64 0) := HB.out.cell 1
  have z2 : w3.cell? ⟨w.heap.size, 2, none⟩ = some (.int .i64 0) := HB.out.cell 2
  have z3 : w3.cell? ⟨w.heap.size, 3, none⟩ = some (.string (⟨#[]⟩ : ByteArray)) := HB.out.cell 3
  have z4 : w3.cell? ⟨w.heap.size, 4, none⟩ = some (.bool false) := HB.out.cell 4
  have z5 : w3.cell? ⟨w.heap.size, 5, none⟩ = some (.string (⟨#[]⟩ : ByteArray)) := HB.out.cell 5
  have z6 : w3.cell? ⟨w.heap.size, 6, none⟩ = some (.int .u64 0) := HB.out.cell 6
  have z7 : w3.cell? ⟨w.heap.size, 7, none⟩ = some (.slice na 0 nc) := HB.out.cell 7
  have z8 : w3.cell? ⟨w.heap.size, 8, none⟩ = some (.slice ra 0 rc) := HB.out.cell 8
  have z9 : w3.cell? ⟨w.heap.size, 9, none⟩ = some (.slice ga 0 gc) := HB.out.cell 9
  have z10 : w3.cell? ⟨w.heap.size, 10, none⟩ = some (.slice oa om oc) := HB.out.cell 10
  have z11 : w3.cell? ⟨w.heap.size, 11, none⟩ = some (.slice da dn dc) := HB.out.cell 11
  go_wp2
  clear z0 z1 z2 z3 z4 z5 z6 z7 z8 z9 z10 z11
  go_loopw [155] (fun i wr => i = .int .i64 0 ∧ Below w.heap.size w wr ∧ Blk wr w.heap.size #[.int .i64 8, .int .u64 0, .int .i64 0, .string (⟨#[]⟩ : ByteArray), .bool false, .string (⟨#[]⟩ : ByteArray), .int .u64 0, .slice na 0 nc, .slice ra 0 rc, .slice ga 0 gc, .slice oa om oc, .slice da dn dc] 31) (fun _ _ => 0)
  case atStart => exact ⟨rfl, HY.out, HB.out⟩
  case round =>
    obtain ⟨rfl, hy, hb⟩ := hrel
    clear HY HB
    have HY : Hid (Below w.heap.size w wr) := hy
    have HB : Hid (Blk wr w.heap.size #[.int .i64 8, .int .u64 0, .int .i64 0, .string (⟨#[]⟩ : ByteArray), .bool false, .string (⟨#[]⟩ : ByteArray), .int .u64 0, .slice na 0 nc, .slice ra 0 rc, .slice ga 0 gc, .slice oa om oc, .slice da dn dc] 31) := hb
    clear hy hb
    rename World => wa
    have z0 : wa.cell? ⟨w.heap.size, 0, none⟩ = some (.int .i64 8) := HB.out.cell 0
    have z1 : wa.cell? ⟨w.heap.size, 1, none⟩ = some (.int .u64 0) := HB.out.cell 1
    have z2 : wa.cell? ⟨w.heap.size, 2, none⟩ = some (.int .i64 0) := HB.out.cell 2
    have z3 : wa.cell? ⟨w.heap.size, 3, none⟩ = some (.string (⟨#[]⟩ : ByteArray)) := HB.out.cell 3
    have z4 : wa.cell? ⟨w.heap.size, 4, none⟩ = some (.bool false) := HB.out.cell 4
    have z5 : wa.cell? ⟨w.heap.size, 5, none⟩ = some (.string (⟨#[]⟩ : ByteArray)) := HB.out.cell 5
    have z6 : wa.cell? ⟨w.heap.size, 6, none⟩ = some (.int .u64 0) := HB.out.cell 6
    have z7 : wa.cell? ⟨w.heap.size, 7, none⟩ = some (.slice na 0 nc) := HB.out.cell 7
    have z8 : wa.cell? ⟨w.heap.size, 8, none⟩ = some (.slice ra 0 rc) := HB.out.cell 8
    have z9 : wa.cell? ⟨w.heap.size, 9, none⟩ = some (.slice ga 0 gc) := HB.out.cell 9
    have z10 : wa.cell? ⟨w.heap.size, 10, none⟩ = some (.slice oa om oc) := HB.out.cell 10
    have z11 : wa.cell? ⟨w.heap.size, 11, none⟩ = some (.slice da dn dc) := HB.out.cell 11
    go_wp2
    clear z0 z1 z2 z3 z4 z5 z6 z7 z8 z9 z10 z11
    go_loopw [194] (fun i wr => ∃ k : Nat, i = .int .i64 (k : Int) ∧ k ≤ om ∧ Below w.heap.size w wr ∧ Blk wr w.heap.size #[.int .i64 8, .int .u64 0, .int .i64 0, .string (⟨#[]⟩ : ByteArray), .bool false, .string (⟨#[]⟩ : ByteArray), .int .u64 0, .slice na 0 nc, .slice ra 0 rc, .slice ga 0 gc, .slice oa om oc, .slice da dn dc] 31) (fun i _ => om - (intOf i).toNat)
    case atStart => exact ⟨0, rfl, Nat.zero_le _, HY.out, HB.out⟩
    case round =>
      obtain ⟨k, rfl, hk, hy, hb⟩ := hrel
      clear HY HB
      have HY : Hid (Below w.heap.size w wr) := hy
      have HB : Hid (Blk wr w.heap.size #[.int .i64 8, .int .u64 0, .int .i64 0, .string (⟨#[]⟩ : ByteArray), .bool false, .string (⟨#[]⟩ : ByteArray), .int .u64 0, .slice na 0 nc, .slice ra 0 rc, .slice ga 0 gc, .slice oa om oc, .slice da dn dc] 31) := hb
      clear hy hb
      by_cases hlt : k < om
      · have hkl : k < os.length := by rw [← HO.out.len.1]; exact hlt
        have hi2 : (k : Int) < (om : Int) := by omega
        obtain ⟨ad, had⟩ := RowsN.adr HO.out (by omega)
        subst had
        have HH : Hid (RowsN wr 7 _ (.slice (some ad) _ _) os) := HO.out.below HY.out
        have e0 : wr.cell? (ad.add (k * 7)) = some _ := HH.out.at0 hkl rfl
        have e1 : wr.cell? ⟨(ad.add (k * 7)).block, (ad.add (k * 7)).off + 1, none⟩ = some _ := HH.out.atS hkl 0 rfl
        have e2 : wr.cell? ⟨(ad.add (k * 7)).block, (ad.add (k * 7)).off + 2, none⟩ = some _ := HH.out.atS hkl 1 rfl
        have e3 : wr.cell? ⟨(ad.add (k * 7)).block, (ad.add (k * 7)).off + 3, none⟩ = some _ := HH.out.atS hkl 2 rfl
        have e4 : wr.cell? ⟨(ad.add (k * 7)).block, (ad.add (k * 7)).off + 4, none⟩ = some _ := HH.out.atS hkl 3 rfl
        have e5 : wr.cell? ⟨(ad.add (k * 7)).block, (ad.add (k * 7)).off + 5, none⟩ = some _ := HH.out.atS hkl 4 rfl
        have e6 : wr.cell? ⟨(ad.add (k * 7)).block, (ad.add (k * 7)).off + 6, none⟩ = some _ := HH.out.atS hkl 5 rfl
        obtain ⟨hr1, hr2⟩ := fits_at HOO.out hkl
        have HR1 : Hid (_ = true) := hr1
        have HR2 : Hid (∀ j (hj : j < os.length), k = j + 1 → _ = true) := hr2
        have HQA : Hid (os[k].At w) := HOA.out _ (List.getElem_mem hkl)
        clear hr1 hr2
        generalize os[k] = q at *
        have HY' : Hid (Below w.heap.size w (wr.alloc (.cells #[.int .u64 q.num, .int .i64 q.node, .int .u64 q.last, .int .u64 q.first, .int .i64 q.count, .bool q.ready, .slice q.ra q.rn q.rc] 45))) := HY.out.alloc HY.out.size _
        have HB' : Hid (Blk (wr.alloc (.cells #[.int .u64 q.num, .int .i64 q.node, .int .u64 q.last, .int .u64 q.first, .int .i64 q.count, .bool q.ready, .slice q.ra q.rn q.rc] 45)) w.heap.size #[.int .i64 8, .int .u64 0, .int .i64 0, .string (⟨#[]⟩ : ByteArray), .bool false, .string (⟨#[]⟩ : ByteArray), .int .u64 0, .slice na 0 nc, .slice ra 0 rc, .slice ga 0 gc, .slice (some ad) om oc, .slice da dn dc] 31) := HB.out.alloc _
        have HQ : Hid (Blk (wr.alloc (.cells #[.int .u64 q.num, .int .i64 q.node, .int .u64 q.last, .int .u64 q.first, .int .i64 q.count, .bool q.ready, .slice q.ra q.rn q.rc] 45)) wr.heap.size #[.int .u64 q.num, .int .i64 q.node, .int .u64 q.last, .int .u64 q.first, .int .i64 q.count, .bool q.ready, .slice q.ra q.rn q.rc] 45) := Blk.new _ _ _
        have HH' : Hid (RowsN (wr.alloc (.cells #[.int .u64 q.num, .int .i64 q.node, .int .u64 q.last, .int .u64 q.first, .int .i64 q.count, .bool q.ready, .slice q.ra q.rn q.rc] 45)) 7 _ (.slice (some ad) _ _) os) := HH.out.below (below_allocR _)
        go_upto_region 19 with fail
        clear e0 e1 e2 e3 e4 e5 e6 HH HY HB
        generalize (wr.alloc (.cells #[.int .u64 q.num, .int .i64 q.node, .int .u64 q.last, .int .u64 q.first, .int .i64 q.count, .bool q.ready, .slice q.ra q.rn q.rc] 45)) = y0 at *
        obtain ⟨b, hbb⟩ : ∃ b, wr.heap.size = b := ⟨_, rfl⟩
        rw [hbb] at HQ ⊢
        clear hbb
        rcases (show k = 0 ∨ ∃ m, k = m + 1 from by cases k; exact .inl rfl; exact .inr ⟨_, rfl⟩) with hk0 | ⟨m, hm⟩
        · have hk1 : ¬ 0 < k := by omega
          have hk2 : ¬ (0 : Int) < (k : Int) := by omega
          have hk5 : decide ((0 : Int) < (k : Int)) = false := decide_eq_false hk2
          clear HR2 HH' hk0
          obtain ⟨hp1, hp2⟩ := open_parts HR1.out
          have htk : tidOk q.num q.node = true := by
            have h := HR1.out
            unfold openOk at h
            simp only [Bool.and_eq_true] at h
            exact h.1.1.1.1.1
          have HTK : Hid (tidOk q.num q.node = true) := htk
          have HRK : Hid (readsOk q.rs = true) := hp2
          have ha1 : ¬ 4611686018427387904 < q.last := by omega
          have ha2 : ¬ 4611686018427387904 < q.first := by omega
          have ha3 : ¬ q.count < 0 := by omega
          have ha4 : ¬ 1073741824 < q.count := by omega
          clear htk hp1 hp2
          refine wp_region_ext (by kernel_rfl) ?_
          haveI nA := cls_ext y0.drew
          have u0 := cellX (W0 := y0.drew) (show y0.drew.cell? ⟨b, 0, none⟩ = some (.int .u64 q.num) from (Blk.of HQ.out ((Below.drew (Below.refl _ y0)).block _ HQ.out.lt)).cell 0)
          have u1 := cellX (W0 := y0.drew) (show y0.drew.cell? ⟨b, 1, none⟩ = some (.int .i64 q.node) from (Blk.of HQ.out ((Below.drew (Below.refl _ y0)).block _ HQ.out.lt)).cell 1)
          have u2 := cellX (W0 := y0.drew) (show y0.drew.cell? ⟨b, 2, none⟩ = some (.int .u64 q.last) from (Blk.of HQ.out ((Below.drew (Below.refl _ y0)).block _ HQ.out.lt)).cell 2)
          have u3 := cellX (W0 := y0.drew) (show y0.drew.cell? ⟨b, 3, none⟩ = some (.int .u64 q.first) from (Blk.of HQ.out ((Below.drew (Below.refl _ y0)).block _ HQ.out.lt)).cell 3)
          have u4 := cellX (W0 := y0.drew) (show y0.drew.cell? ⟨b, 4, none⟩ = some (.int .i64 q.count) from (Blk.of HQ.out ((Below.drew (Below.refl _ y0)).block _ HQ.out.lt)).cell 4)
          have u5 := cellX (W0 := y0.drew) (show y0.drew.cell? ⟨b, 5, none⟩ = some (.bool q.ready) from (Blk.of HQ.out ((Below.drew (Below.refl _ y0)).block _ HQ.out.lt)).cell 5)
          have u6 := cellX (W0 := y0.drew) (show y0.drew.cell? ⟨b, 6, none⟩ = some (.slice q.ra q.rn q.rc) from (Blk.of HQ.out ((Below.drew (Below.refl _ y0)).block _ HQ.out.lt)).cell 6)
          have HYr : Hid (Below y0.heap.size y0 y0.drew) := Below.drew (Below.refl _ _)
          refine wpAnyH_seg (by kernel_rfl) (fun _ _ _ h => h) [0, 1] 45 _ _ _ (Ext.refl _) (by kernel_rfl) ?_
          simp only [opsAt, List.getElem?_toArray, List.getElem?_cons_zero, List.getElem?_cons_succ, List.cons_append, List.nil_append]
          repeat (go_big_quiet_step (fail))
          refine wpQuiet_nil ?_
          clear nA u0 u1 u2 u3 u4 u5 u6
          refine wpAnyH_callE (i := 2) (fuel := 44) 201 rfl (by kernel_rfl) rfl (Ext.refl _) (by kernel_rfl) (f := 22) (args := #[.agg #[.int .u64 q.num, .int .i64 q.node]]) (by kernel_rfl) (tid_ok q.num q.node y0.drew HTK.out) ?_
          rintro e x1 ⟨rfl, y⟩
          refine ⟨_, rfl, y, ?_⟩
          have HYr' : Hid (Below y0.heap.size y0 x1) := ext_trans HYr.out y
          clear HYr y
          have HYr := HYr'
          clear HYr'
          simp only [Act.put, List.setIfInBounds_toArray, List.set_cons_succ, List.set_cons_zero]
          haveI nA := cls_ext x1
          have u0 := cellX (W0 := x1) (show x1.cell? ⟨b, 0, none⟩ = some (.int .u64 q.num) from (Blk.of HQ.out (HYr.out.block _ HQ.out.lt)).cell 0)
          have u1 := cellX (W0 := x1) (show x1.cell? ⟨b, 1, none⟩ = some (.int .i64 q.node) from (Blk.of HQ.out (HYr.out.block _ HQ.out.lt)).cell 1)
          have u2 := cellX (W0 := x1) (show x1.cell? ⟨b, 2, none⟩ = some (.int .u64 q.last) from (Blk.of HQ.out (HYr.out.block _ HQ.out.lt)).cell 2)
          have u3 := cellX (W0 := x1) (show x1.cell? ⟨b, 3, none⟩ = some (.int .u64 q.first) from (Blk.of HQ.out (HYr.out.block _ HQ.out.lt)).cell 3)
          have u4 := cellX (W0 := x1) (show x1.cell? ⟨b, 4, none⟩ = some (.int .i64 q.count) from (Blk.of HQ.out (HYr.out.block _ HQ.out.lt)).cell 4)
          have u5 := cellX (W0 := x1) (show x1.cell? ⟨b, 5, none⟩ = some (.bool q.ready) from (Blk.of HQ.out (HYr.out.block _ HQ.out.lt)).cell 5)
          have u6 := cellX (W0 := x1) (show x1.cell? ⟨b, 6, none⟩ = some (.slice q.ra q.rn q.rc) from (Blk.of HQ.out (HYr.out.block _ HQ.out.lt)).cell 6)
          refine wpAnyH_seg (by kernel_rfl) (fun _ _ _ h => h) [3, 4, 5, 6, 7, 8, 9, 10, 11, 12, 13, 14, 15, 16, 17, 18, 19, 20, 21, 22, 23, 24, 25, 26] 20 _ _ _ (Ext.refl _) (by kernel_rfl) ?_
          simp only [opsAt, List.getElem?_toArray, List.getElem?_cons_zero, List.getElem?_cons_succ, List.cons_append, List.nil_append]
          repeat (go_big_quiet_step (fail))
          refine wpQuiet_nil ?_
          clear nA u0 u1 u2 u3 u4 u5 u6
          refine wpAnyH_callE (i := 27) (fuel := 19) 226 rfl (by kernel_rfl) rfl (Ext.refl _) (by kernel_rfl) (f := 24) (args := #[.slice q.ra q.rn q.rc]) (by kernel_rfl) (keys_ok _ q.rs x1 ((HQA.out.below HY'.out).below HYr.out).rd HRK.out) ?_
          rintro e x2 ⟨rfl, y⟩
          refine ⟨_, rfl, y, ?_⟩
          have HYr' : Hid (Below y0.heap.size y0 x2) := ext_trans HYr.out y
          clear HYr y
          have HYr := HYr'
          clear HYr'
          simp only [Act.put, List.setIfInBounds_toArray, List.set_cons_succ, List.set_cons_zero]
          haveI nA := cls_ext x2
          have u0 := cellX (W0 := x2) (show x2.cell? ⟨b, 0, none⟩ = some (.int .u64 q.num) from (Blk.of HQ.out (HYr.out.block _ HQ.out.lt)).cell 0)
          have u1 := cellX (W0 := x2) (show x2.cell? ⟨b, 1, none⟩ = some (.int .i64 q.node) from (Blk.of HQ.out (HYr.out.block _ HQ.out.lt)).cell 1)
          have u2 := cellX (W0 := x2) (show x2.cell? ⟨b, 2, none⟩ = some (.int .u64 q.last) from (Blk.of HQ.out (HYr.out.block _ HQ.out.lt)).cell 2)
          have u3 := cellX (W0 := x2) (show x2.cell? ⟨b, 3, none⟩ = some (.int .u64 q.first) from (Blk.of HQ.out (HYr.out.block _ HQ.out.lt)).cell 3)
          have u4 := cellX (W0 := x2) (show x2.cell? ⟨b, 4, none⟩ = some (.int .i64 q.count) from (Blk.of HQ.out (HYr.out.block _ HQ.out.lt)).cell 4)
          have u5 := cellX (W0 := x2) (show x2.cell? ⟨b, 5, none⟩ = some (.bool q.ready) from (Blk.of HQ.out (HYr.out.block _ HQ.out.lt)).cell 5)
          have u6 := cellX (W0 := x2) (show x2.cell? ⟨b, 6, none⟩ = some (.slice q.ra q.rn q.rc) from (Blk.of HQ.out (HYr.out.block _ HQ.out.lt)).cell 6)
          refine wpAnyH_seg (by kernel_rfl) (fun _ _ _ h => h) [28, 29, 30, 31, 32, 33, 34, 35, 36, 37, 38, 39, 40, 41, 42] 4 _ _ _ (Ext.refl _) (by kernel_rfl) ?_
          simp only [opsAt, List.getElem?_toArray, List.getElem?_cons_zero, List.getElem?_cons_succ, List.cons_append, List.nil_append]
          repeat (go_big_quiet_step (fail))
          refine wpQuiet_nil ?_
          refine wpAnyH_all (rs := [43]) (fuel := 3) (by kernel_rfl) (by simp) fun j0 hj0 => ?_
          obtain rfl : j0 = 43 := by simpa using hj0
          clear hj0
          refine wpOp_skip 242 rfl (by kernel_rfl) rfl ?_
          refine ⟨Ext.refl _, ?_⟩
          simp only [Act.put, List.setIfInBounds_toArray, List.set_cons_succ, List.set_cons_zero]
          refine wpAnyH_seg (by kernel_rfl) (fun _ _ _ h => h) [44, 45, 46] 0 _ _ _ (Ext.refl _) (by kernel_rfl) ?_
          simp only [opsAt, List.getElem?_toArray, List.getElem?_cons_zero, List.getElem?_cons_succ, List.cons_append, List.nil_append]
          repeat (go_big_quiet_step (fail))
          refine wpQuiet_nil ?_
          clear nA u0 u1 u2 u3 u4 u5 u6
          refine wpAnyH_done (by kernel_rfl) (NoPanic.normal ?_) 0
          have HYZ : Hid (Below w.heap.size w x2) := ext_trans HY'.out HYr.out
          have HBZ : Hid (Blk x2 w.heap.size #[.int .i64 8, .int .u64 0, .int .i64 0, .string (⟨#[]⟩ : ByteArray), .bool false, .string (⟨#[]⟩ : ByteArray), .int .u64 0, .slice na 0 nc, .slice ra 0 rc, .slice ga 0 gc, .slice (some ad) om oc, .slice da dn dc] 31) := Blk.of HB'.out (HYr.out.block _ HB'.out.lt)
          go_wp2
          go_roundw
          case rel => exact ⟨k + 1, by go_num, by omega, HYZ.out, HBZ.out⟩
          case measure => simp [intOf]; omega
        · have hml : m < os.length := by omega
          have HA2 : Hid (_ = true) := HR2.out m hml hm
          have hk1 : 0 < k := by omega
          have hk2 : (0 : Int) < (k : Int) := by omega
          have hk5 : decide ((0 : Int) < (k : Int)) = true := decide_eq_true hk2
          have hk3 : (k : Int) - 1 = (m : Int) := by omega
          have hk4 : m < om := by omega
          have HM0 : Hid (∀ W, Below y0.heap.size y0 W → W.cell? (ad.add (m * 7)) = some (.int .u64 os[m].num)) := fun W hW => (HH'.out.below hW).at0 hml rfl
          have HM1 : Hid (∀ W, Below y0.heap.size y0 W → W.cell? ⟨(ad.add (m * 7)).block, (ad.add (m * 7)).off + 1, none⟩ = some (.int .i64 os[m].node)) := fun W hW => (HH'.out.below hW).atS hml 0 rfl
          clear HH'
          obtain ⟨hp1, hp2⟩ := open_parts HR1.out
          have htk : tidOk q.num q.node = true := by
            have h := HR1.out
            unfold openOk at h
            simp only [Bool.and_eq_true] at h
            exact h.1.1.1.1.1
          have HTK : Hid (tidOk q.num q.node = true) := htk
          have HRK : Hid (readsOk q.rs = true) := hp2
          have ha1 : ¬ 4611686018427387904 < q.last := by omega
          have ha2 : ¬ 4611686018427387904 < q.first := by omega
          have ha3 : ¬ q.count < 0 := by omega
          have ha4 : ¬ 1073741824 < q.count := by omega
          clear htk hp1 hp2
          have HEL : Hid (elderT (os[m]).num (os[m]).node q.num q.node = true) := HA2.out
          generalize os[m] = m0 at *
          clear HR2 hm hml
          refine wp_region_ext (by kernel_rfl) ?_
          haveI nA := cls_ext y0.drew
          have u0 := cellX (W0 := y0.drew) (show y0.drew.cell? ⟨b, 0, none⟩ = some (.int .u64 q.num) from (Blk.of HQ.out ((Below.drew (Below.refl _ y0)).block _ HQ.out.lt)).cell 0)
          have u1 := cellX (W0 := y0.drew) (show y0.drew.cell? ⟨b, 1, none⟩ = some (.int .i64 q.node) from (Blk.of HQ.out ((Below.drew (Below.refl _ y0)).block _ HQ.out.lt)).cell 1)
          have u2 := cellX (W0 := y0.drew) (show y0.drew.cell? ⟨b, 2, none⟩ = some (.int .u64 q.last) from (Blk.of HQ.out ((Below.drew (Below.refl _ y0)).block _ HQ.out.lt)).cell 2)
          have u3 := cellX (W0 := y0.drew) (show y0.drew.cell? ⟨b, 3, none⟩ = some (.int .u64 q.first) from (Blk.of HQ.out ((Below.drew (Below.refl _ y0)).block _ HQ.out.lt)).cell 3)
          have u4 := cellX (W0 := y0.drew) (show y0.drew.cell? ⟨b, 4, none⟩ = some (.int .i64 q.count) from (Blk.of HQ.out ((Below.drew (Below.refl _ y0)).block _ HQ.out.lt)).cell 4)
          have u5 := cellX (W0 := y0.drew) (show y0.drew.cell? ⟨b, 5, none⟩ = some (.bool q.ready) from (Blk.of HQ.out ((Below.drew (Below.refl _ y0)).block _ HQ.out.lt)).cell 5)
          have u6 := cellX (W0 := y0.drew) (show y0.drew.cell? ⟨b, 6, none⟩ = some (.slice q.ra q.rn q.rc) from (Blk.of HQ.out ((Below.drew (Below.refl _ y0)).block _ HQ.out.lt)).cell 6)
          have p9 := cellX (W0 := y0.drew) (show y0.drew.cell? ⟨w.heap.size, 10, none⟩ = some (.slice (some ad) om oc) from (Blk.of HB'.out ((Below.drew (Below.refl _ y0)).block _ HB'.out.lt)).cell 10)
          have m9 := cellX (W0 := y0.drew) (HM0.out _ (Below.drew (Below.refl _ y0)))
          have m8 := cellX (W0 := y0.drew) (HM1.out _ (Below.drew (Below.refl _ y0)))
          have HYr : Hid (Below y0.heap.size y0 y0.drew) := Below.drew (Below.refl _ _)
          refine wpAnyH_seg (by kernel_rfl) (fun _ _ _ h => h) [0, 1] 45 _ _ _ (Ext.refl _) (by kernel_rfl) ?_
          simp only [opsAt, List.getElem?_toArray, List.getElem?_cons_zero, List.getElem?_cons_succ, List.cons_append, List.nil_append]
          repeat (go_big_quiet_step (fail))
          refine wpQuiet_nil ?_
          clear nA u0 u1 u2 u3 u4 u5 u6 p9 m9 m8
          refine wpAnyH_callE (i := 2) (fuel := 44) 201 rfl (by kernel_rfl) rfl (Ext.refl _) (by kernel_rfl) (f := 22) (args := #[.agg #[.int .u64 q.num, .int .i64 q.node]]) (by kernel_rfl) (tid_ok q.num q.node y0.drew HTK.out) ?_
          rintro e x1 ⟨rfl, y⟩
          refine ⟨_, rfl, y, ?_⟩
          have HYr' : Hid (Below y0.heap.size y0 x1) := ext_trans HYr.out y
          clear HYr y
          have HYr := HYr'
          clear HYr'
          simp only [Act.put, List.setIfInBounds_toArray, List.set_cons_succ, List.set_cons_zero]
          haveI nA := cls_ext x1
          have u0 := cellX (W0 := x1) (show x1.cell? ⟨b, 0, none⟩ = some (.int .u64 q.num) from (Blk.of HQ.out (HYr.out.block _ HQ.out.lt)).cell 0)
          have u1 := cellX (W0 := x1) (show x1.cell? ⟨b, 1, none⟩ = some (.int .i64 q.node) from (Blk.of HQ.out (HYr.out.block _ HQ.out.lt)).cell 1)
          have u2 := cellX (W0 := x1) (show x1.cell? ⟨b, 2, none⟩ = some (.int .u64 q.last) from (Blk.of HQ.out (HYr.out.block _ HQ.out.lt)).cell 2)
          have u3 := cellX (W0 := x1) (show x1.cell? ⟨b, 3, none⟩ = some (.int .u64 q.first) from (Blk.of HQ.out (HYr.out.block _ HQ.out.lt)).cell 3)
          have u4 := cellX (W0 := x1) (show x1.cell? ⟨b, 4, none⟩ = some (.int .i64 q.count) from (Blk.of HQ.out (HYr.out.block _ HQ.out.lt)).cell 4)
          have u5 := cellX (W0 := x1) (show x1.cell? ⟨b, 5, none⟩ = some (.bool q.ready) from (Blk.of HQ.out (HYr.out.block _ HQ.out.lt)).cell 5)
          have u6 := cellX (W0 := x1) (show x1.cell? ⟨b, 6, none⟩ = some (.slice q.ra q.rn q.rc) from (Blk.of HQ.out (HYr.out.block _ HQ.out.lt)).cell 6)
          have p9 := cellX (W0 := x1) (show x1.cell? ⟨w.heap.size, 10, none⟩ = some (.slice (some ad) om oc) from (Blk.of HB'.out (HYr.out.block _ HB'.out.lt)).cell 10)
          have m9 := cellX (W0 := x1) (HM0.out _ HYr.out)
          have m8 := cellX (W0 := x1) (HM1.out _ HYr.out)
          refine wpAnyH_seg (by kernel_rfl) (fun _ _ _ h => h) [3, 4, 5, 6, 7, 8, 9, 10, 11, 12, 13, 14, 15, 16, 17, 18, 19, 20, 21, 22, 23, 24, 25, 26] 20 _ _ _ (Ext.refl _) (by kernel_rfl) ?_
          simp only [opsAt, List.getElem?_toArray, List.getElem?_cons_zero, List.getElem?_cons_succ, List.cons_append, List.nil_append]
          repeat (go_big_quiet_step (fail))
          refine wpQuiet_nil ?_
          clear nA u0 u1 u2 u3 u4 u5 u6 p9 m9 m8
          refine wpAnyH_callE (i := 27) (fuel := 19) 226 rfl (by kernel_rfl) rfl (Ext.refl _) (by kernel_rfl) (f := 24) (args := #[.slice q.ra q.rn q.rc]) (by kernel_rfl) (keys_ok _ q.rs x1 ((HQA.out.below HY'.out).below HYr.out).rd HRK.out) ?_
          rintro e x2 ⟨rfl, y⟩
          refine ⟨_, rfl, y, ?_⟩
          have HYr' : Hid (Below y0.heap.size y0 x2) := ext_trans HYr.out y
          clear HYr y
          have HYr := HYr'
          clear HYr'
          simp only [Act.put, List.setIfInBounds_toArray, List.set_cons_succ, List.set_cons_zero]
          haveI nA := cls_ext x2
          have u0 := cellX (W0 := x2) (show x2.cell? ⟨b, 0, none⟩ = some (.int .u64 q.num) from (Blk.of HQ.out (HYr.out.block _ HQ.out.lt)).cell 0)
          have u1 := cellX (W0 := x2) (show x2.cell? ⟨b, 1, none⟩ = some (.int .i64 q.node) from (Blk.of HQ.out (HYr.out.block _ HQ.out.lt)).cell 1)
          have u2 := cellX (W0 := x2) (show x2.cell? ⟨b, 2, none⟩ = some (.int .u64 q.last) from (Blk.of HQ.out (HYr.out.block _ HQ.out.lt)).cell 2)
          have u3 := cellX (W0 := x2) (show x2.cell? ⟨b, 3, none⟩ = some (.int .u64 q.first) from (Blk.of HQ.out (HYr.out.block _ HQ.out.lt)).cell 3)
          have u4 := cellX (W0 := x2) (show x2.cell? ⟨b, 4, none⟩ = some (.int .i64 q.count) from (Blk.of HQ.out (HYr.out.block _ HQ.out.lt)).cell 4)
          have u5 := cellX (W0 := x2) (show x2.cell? ⟨b, 5, none⟩ = some (.bool q.ready) from (Blk.of HQ.out (HYr.out.block _ HQ.out.lt)).cell 5)
          have u6 := cellX (W0 := x2) (show x2.cell? ⟨b, 6, none⟩ = some (.slice q.ra q.rn q.rc) from (Blk.of HQ.out (HYr.out.block _ HQ.out.lt)).cell 6)
          have p9 := cellX (W0 := x2) (show x2.cell? ⟨w.heap.size, 10, none⟩ = some (.slice (some ad) om oc) from (Blk.of HB'.out (HYr.out.block _ HB'.out.lt)).cell 10)
          have m9 := cellX (W0 := x2) (HM0.out _ HYr.out)
          have m8 := cellX (W0 := x2) (HM1.out _ HYr.out)
          refine wpAnyH_seg (by kernel_rfl) (fun _ _ _ h => h) [28, 29, 30, 31, 32, 33, 34, 35, 36, 37, 38, 39, 40, 41, 42] 4 _ _ _ (Ext.refl _) (by kernel_rfl) ?_
          simp only [opsAt, List.getElem?_toArray, List.getElem?_cons_zero, List.getElem?_cons_succ, List.cons_append, List.nil_append]
          repeat (go_big_quiet_step (fail))
          refine wpQuiet_nil ?_
          clear nA u0 u1 u2 u3 u4 u5 u6 p9 m9 m8
          refine wpAnyH_callE (i := 43) (fuel := 3) 242 rfl (by kernel_rfl) rfl (Ext.refl _) (by kernel_rfl) (f := 26) (args := #[.agg #[.int .u64 m0.num, .int .i64 m0.node], .agg #[.int .u64 q.num, .int .i64 q.node]]) (by kernel_rfl) (elder_ok m0.num m0.node q.num q.node x2 HEL.out) ?_
          rintro e x3 ⟨rfl, y⟩
          refine ⟨_, rfl, y, ?_⟩
          have HYr' : Hid (Below y0.heap.size y0 x3) := ext_trans HYr.out y
          clear HYr y
          have HYr := HYr'
          clear HYr'
          simp only [Act.put, List.setIfInBounds_toArray, List.set_cons_succ, List.set_cons_zero]
          haveI nA := cls_ext x3
          have u0 := cellX (W0 := x3) (show x3.cell? ⟨b, 0, none⟩ = some (.int .u64 q.num) from (Blk.of HQ.out (HYr.out.block _ HQ.out.lt)).cell 0)
          have u1 := cellX (W0 := x3) (show x3.cell? ⟨b, 1, none⟩ = some (.int .i64 q.node) from (Blk.of HQ.out (HYr.out.block _ HQ.out.lt)).cell 1)
          have u2 := cellX (W0 := x3) (show x3.cell? ⟨b, 2, none⟩ = some (.int .u64 q.last) from (Blk.of HQ.out (HYr.out.block _ HQ.out.lt)).cell 2)
          have u3 := cellX (W0 := x3) (show x3.cell? ⟨b, 3, none⟩ = some (.int .u64 q.first) from (Blk.of HQ.out (HYr.out.block _ HQ.out.lt)).cell 3)
          have u4 := cellX (W0 := x3) (show x3.cell? ⟨b, 4, none⟩ = some (.int .i64 q.count) from (Blk.of HQ.out (HYr.out.block _ HQ.out.lt)).cell 4)
          have u5 := cellX (W0 := x3) (show x3.cell? ⟨b, 5, none⟩ = some (.bool q.ready) from (Blk.of HQ.out (HYr.out.block _ HQ.out.lt)).cell 5)
          have u6 := cellX (W0 := x3) (show x3.cell? ⟨b, 6, none⟩ = some (.slice q.ra q.rn q.rc) from (Blk.of HQ.out (HYr.out.block _ HQ.out.lt)).cell 6)
          have p9 := cellX (W0 := x3) (show x3.cell? ⟨w.heap.size, 10, none⟩ = some (.slice (some ad) om oc) from (Blk.of HB'.out (HYr.out.block _ HB'.out.lt)).cell 10)
          have m9 := cellX (W0 := x3) (HM0.out _ HYr.out)
          have m8 := cellX (W0 := x3) (HM1.out _ HYr.out)
          refine wpAnyH_seg (by kernel_rfl) (fun _ _ _ h => h) [44, 45, 46] 0 _ _ _ (Ext.refl _) (by kernel_rfl) ?_
          simp only [opsAt, List.getElem?_toArray, List.getElem?_cons_zero, List.getElem?_cons_succ, List.cons_append, List.nil_append]
          repeat (go_big_quiet_step (fail))
          refine wpQuiet_nil ?_
          clear nA u0 u1 u2 u3 u4 u5 u6 p9 m9 m8
          refine wpAnyH_done (by kernel_rfl) (NoPanic.normal ?_) 0
          have HYZ : Hid (Below w.heap.size w x3) := ext_trans HY'.out HYr.out
          have HBZ : Hid (Blk x3 w.heap.size #[.int .i64 8, .int .u64 0, .int .i64 0, .string (⟨#[]⟩ : ByteArray), .bool false, .string (⟨#[]⟩ : ByteArray), .int .u64 0, .slice na 0 nc, .slice ra 0 rc, .slice ga 0 gc, .slice (some ad) om oc, .slice da dn dc] 31) := Blk.of HB'.out (HYr.out.block _ HB'.out.lt)
          go_wp2
          go_roundw
          case rel => exact ⟨k + 1, by go_num, by omega, HYZ.out, HBZ.out⟩
          case measure => simp [intOf]; omega
      · clear hk
        rename World => wb
        have z0 : wb.cell? ⟨w.heap.size, 0, none⟩ = some (.int .i64 8) := HB.out.cell 0
        have z1 : wb.cell? ⟨w.heap.size, 1, none⟩ = some (.int .u64 0) := HB.out.cell 1
        have z2 : wb.cell? ⟨w.heap.size, 2, none⟩ = some (.int .i64 0) := HB.out.cell 2
        have z3 : wb.cell? ⟨w.heap.size, 3, none⟩ = some (.string (⟨#[]⟩ : ByteArray)) := HB.out.cell 3
        have z4 : wb.cell? ⟨w.heap.size, 4, none⟩ = some (.bool false) := HB.out.cell 4
        have z5 : wb.cell? ⟨w.heap.size, 5, none⟩ = some (.string (⟨#[]⟩ : ByteArray)) := HB.out.cell 5
        have z6 : wb.cell? ⟨w.heap.size, 6, none⟩ = some (.int .u64 0) := HB.out.cell 6
        have z7 : wb.cell? ⟨w.heap.size, 7, none⟩ = some (.slice na 0 nc) := HB.out.cell 7
        have z8 : wb.cell? ⟨w.heap.size, 8, none⟩ = some (.slice ra 0 rc) := HB.out.cell 8
        have z9 : wb.cell? ⟨w.heap.size, 9, none⟩ = some (.slice ga 0 gc) := HB.out.cell 9
        have z10 : wb.cell? ⟨w.heap.size, 10, none⟩ = some (.slice oa om oc) := HB.out.cell 10
        have z11 : wb.cell? ⟨w.heap.size, 11, none⟩ = some (.slice da dn dc) := HB.out.cell 11
        go_wp2
        clear z0 z1 z2 z3 z4 z5 z6 z7 z8 z9 z10 z11
        go_loopw [250] (fun i wr => ∃ k : Nat, i = .int .i64 (k : Int) ∧ k ≤ dn ∧ Below w.heap.size w wr ∧ Blk wr w.heap.size #[.int .i64 8, .int .u64 0, .int .i64 0, .string (⟨#[]⟩ : ByteArray), .bool false, .string (⟨#[]⟩ : ByteArray), .int .u64 0, .slice na 0 nc, .slice ra 0 rc, .slice ga 0 gc, .slice oa om oc, .slice da dn dc] 31) (fun i _ => dn - (intOf i).toNat)
        case atStart => exact ⟨0, rfl, Nat.zero_le _, HY.out, HB.out⟩
        case round =>
          obtain ⟨k, rfl, hk, hy, hb⟩ := hrel
          clear HY HB
          have HY : Hid (Below w.heap.size w wr) := hy
          have HB : Hid (Blk wr w.heap.size #[.int .i64 8, .int .u64 0, .int .i64 0, .string (⟨#[]⟩ : ByteArray), .bool false, .string (⟨#[]⟩ : ByteArray), .int .u64 0, .slice na 0 nc, .slice ra 0 rc, .slice ga 0 gc, .slice oa om oc, .slice da dn dc] 31) := hb
          clear hy hb
          by_cases hlt : k < dn
          · have hkl : k < ds.length := by rw [← HD.out.len.1]; exact hlt
            have hi2 : (k : Int) < (dn : Int) := by omega
            obtain ⟨ad, had⟩ := RowsN.adr HD.out (by omega)
            subst had
            have HH : Hid (RowsN wr 3 _ (.slice (some ad) _ _) ds) := HD.out.below HY.out
            have e0 : wr.cell? (ad.add (k * 3)) = some _ := HH.out.at0 hkl rfl
            have e1 : wr.cell? ⟨(ad.add (k * 3)).block, (ad.add (k * 3)).off + 1, none⟩ = some _ := HH.out.atS hkl 0 rfl
            have e2 : wr.cell? ⟨(ad.add (k * 3)).block, (ad.add (k * 3)).off + 2, none⟩ = some _ := HH.out.atS hkl 1 rfl
            obtain ⟨hr1, hr2⟩ := fits_at HDO.out hkl
            have HR1 : Hid (_ = true) := hr1
            have HR2 : Hid (∀ j (hj : j < ds.length), k = j + 1 → _ = true) := hr2
            have HQA : Hid (ds[k].At w) := HDA.out _ (List.getElem_mem hkl)
            clear hr1 hr2
            generalize ds[k] = q at *
            have HY' : Hid (Below w.heap.size w (wr.alloc (.cells #[.int .u64 q.num, .int .i64 q.node, .slice q.na q.nn q.nc] 51))) := HY.out.alloc HY.out.size _
            have HB' : Hid (Blk (wr.alloc (.cells #[.int .u64 q.num, .int .i64 q.node, .slice q.na q.nn q.nc] 51)) w.heap.size #[.int .i64 8, .int .u64 0, .int .i64 0, .string (⟨#[]⟩ : ByteArray), .bool false, .string (⟨#[]⟩ : ByteArray), .int .u64 0, .slice na 0 nc, .slice ra 0 rc, .slice ga 0 gc, .slice oa om oc, .slice (some ad) dn dc] 31) := HB.out.alloc _
            have HQ : Hid (Blk (wr.alloc (.cells #[.int .u64 q.num, .int .i64 q.node, .slice q.na q.nn q.nc] 51)) wr.heap.size #[.int .u64 q.num, .int .i64 q.node, .slice q.na q.nn q.nc] 51) := Blk.new _ _ _
            have HH' : Hid (RowsN (wr.alloc (.cells #[.int .u64 q.num, .int .i64 q.node, .slice q.na q.nn q.nc] 51)) 3 _ (.slice (some ad) _ _) ds) := HH.out.below (below_allocR _)
            go_upto_region 25 with fail
            clear e0 e1 e2 HH HY HB
            generalize (wr.alloc (.cells #[.int .u64 q.num, .int .i64 q.node, .slice q.na q.nn q.nc] 51)) = y0 at *
            obtain ⟨b, hbb⟩ : ∃ b, wr.heap.size = b := ⟨_, rfl⟩
            rw [hbb] at HQ ⊢
            clear hbb
            rcases (show k = 0 ∨ ∃ m, k = m + 1 from by cases k; exact .inl rfl; exact .inr ⟨_, rfl⟩) with hk0 | ⟨m, hm⟩
            · have hk1 : ¬ 0 < k := by omega
              have hk2 : ¬ (0 : Int) < (k : Int) := by omega
              have hk5 : decide ((0 : Int) < (k : Int)) = false := decide_eq_false hk2
              clear HR2 HH' hk0
              have htk : tidOk q.num q.node = true := by
                have h := HR1.out
                unfold doneOk at h
                rw [Bool.and_eq_true] at h
                exact h.1
              have HTK : Hid (tidOk q.num q.node = true) := htk
              have HRK : Hid (nodesOk q.ns = true) := done_parts HR1.out
              clear htk
              refine wp_region_ext (by kernel_rfl) ?_
              haveI nA := cls_ext y0.drew
              have u0 := cellX (W0 := y0.drew) (show y0.drew.cell? ⟨b, 0, none⟩ = some (.int .u64 q.num) from (Blk.of HQ.out ((Below.drew (Below.refl _ y0)).block _ HQ.out.lt)).cell 0)
              have u1 := cellX (W0 := y0.drew) (show y0.drew.cell? ⟨b, 1, none⟩ = some (.int .i64 q.node) from (Blk.of HQ.out ((Below.drew (Below.refl _ y0)).block _ HQ.out.lt)).cell 1)
              have u2 := cellX (W0 := y0.drew) (show y0.drew.cell? ⟨b, 2, none⟩ = some (.slice q.na q.nn q.nc) from (Blk.of HQ.out ((Below.drew (Below.refl _ y0)).block _ HQ.out.lt)).cell 2)
              have HYr : Hid (Below y0.heap.size y0 y0.drew) := Below.drew (Below.refl _ _)
              refine wpAnyH_seg (by kernel_rfl) (fun _ _ _ h => h) [0, 1] 25 _ _ _ (Ext.refl _) (by kernel_rfl) ?_
              simp only [opsAt, List.getElem?_toArray, List.getElem?_cons_zero, List.getElem?_cons_succ, List.cons_append, List.nil_append]
              repeat (go_big_quiet_step (fail))
              refine wpQuiet_nil ?_
              clear nA u0 u1 u2
              refine wpAnyH_callE (i := 2) (fuel := 24) 257 rfl (by kernel_rfl) rfl (Ext.refl _) (by kernel_rfl) (f := 22) (args := #[.agg #[.int .u64 q.num, .int .i64 q.node]]) (by kernel_rfl) (tid_ok q.num q.node y0.drew HTK.out) ?_
              rintro e x1 ⟨rfl, y⟩
              refine ⟨_, rfl, y, ?_⟩
              have HYr' : Hid (Below y0.heap.size y0 x1) := ext_trans HYr.out y
              clear HYr y
              have HYr := HYr'
              clear HYr'
              simp only [Act.put, List.setIfInBounds_toArray, List.set_cons_succ, List.set_cons_zero]
              haveI nA := cls_ext x1
              have u0 := cellX (W0 := x1) (show x1.cell? ⟨b, 0, none⟩ = some (.int .u64 q.num) from (Blk.of HQ.out (HYr.out.block _ HQ.out.lt)).cell 0)
              have u1 := cellX (W0 := x1) (show x1.cell? ⟨b, 1, none⟩ = some (.int .i64 q.node) from (Blk.of HQ.out (HYr.out.block _ HQ.out.lt)).cell 1)
              have u2 := cellX (W0 := x1) (show x1.cell? ⟨b, 2, none⟩ = some (.slice q.na q.nn q.nc) from (Blk.of HQ.out (HYr.out.block _ HQ.out.lt)).cell 2)
              refine wpAnyH_seg (by kernel_rfl) (fun _ _ _ h => h) [3, 4, 5, 6] 20 _ _ _ (Ext.refl _) (by kernel_rfl) ?_
              simp only [opsAt, List.getElem?_toArray, List.getElem?_cons_zero, List.getElem?_cons_succ, List.cons_append, List.nil_append]
              repeat (go_big_quiet_step (fail))
              refine wpQuiet_nil ?_
              clear nA u0 u1 u2
              refine wpAnyH_callE (i := 7) (fuel := 19) 262 rfl (by kernel_rfl) rfl (Ext.refl _) (by kernel_rfl) (f := 23) (args := #[.slice q.na q.nn q.nc]) (by kernel_rfl) (rising_ok _ q.ns x1 ((HQA.out.below HY'.out).below HYr.out).rd HRK.out) ?_
              rintro e x2 ⟨rfl, y⟩
              refine ⟨_, rfl, y, ?_⟩
              have HYr' : Hid (Below y0.heap.size y0 x2) := ext_trans HYr.out y
              clear HYr y
              have HYr := HYr'
              clear HYr'
              simp only [Act.put, List.setIfInBounds_toArray, List.set_cons_succ, List.set_cons_zero]
              haveI nA := cls_ext x2
              have u0 := cellX (W0 := x2) (show x2.cell? ⟨b, 0, none⟩ = some (.int .u64 q.num) from (Blk.of HQ.out (HYr.out.block _ HQ.out.lt)).cell 0)
              have u1 := cellX (W0 := x2) (show x2.cell? ⟨b, 1, none⟩ = some (.int .i64 q.node) from (Blk.of HQ.out (HYr.out.block _ HQ.out.lt)).cell 1)
              have u2 := cellX (W0 := x2) (show x2.cell? ⟨b, 2, none⟩ = some (.slice q.na q.nn q.nc) from (Blk.of HQ.out (HYr.out.block _ HQ.out.lt)).cell 2)
              refine wpAnyH_seg (by kernel_rfl) (fun _ _ _ h => h) [8, 9, 10, 11, 12, 13, 14, 15, 16, 17, 18, 19, 20, 21, 22] 4 _ _ _ (Ext.refl _) (by kernel_rfl) ?_
              simp only [opsAt, List.getElem?_toArray, List.getElem?_cons_zero, List.getElem?_cons_succ, List.cons_append, List.nil_append]
              repeat (go_big_quiet_step (fail))
              refine wpQuiet_nil ?_
              refine wpAnyH_all (rs := [23]) (fuel := 3) (by kernel_rfl) (by simp) fun j0 hj0 => ?_
              obtain rfl : j0 = 23 := by simpa using hj0
              clear hj0
              refine wpOp_skip 278 rfl (by kernel_rfl) rfl ?_
              refine ⟨Ext.refl _, ?_⟩
              simp only [Act.put, List.setIfInBounds_toArray, List.set_cons_succ, List.set_cons_zero]
              refine wpAnyH_seg (by kernel_rfl) (fun _ _ _ h => h) [24, 25, 26] 0 _ _ _ (Ext.refl _) (by kernel_rfl) ?_
              simp only [opsAt, List.getElem?_toArray, List.getElem?_cons_zero, List.getElem?_cons_succ, List.cons_append, List.nil_append]
              repeat (go_big_quiet_step (fail))
              refine wpQuiet_nil ?_
              clear nA u0 u1 u2
              refine wpAnyH_done (by kernel_rfl) (NoPanic.normal ?_) 0
              have HYZ : Hid (Below w.heap.size w x2) := ext_trans HY'.out HYr.out
              have HBZ : Hid (Blk x2 w.heap.size #[.int .i64 8, .int .u64 0, .int .i64 0, .string (⟨#[]⟩ : ByteArray), .bool false, .string (⟨#[]⟩ : ByteArray), .int .u64 0, .slice na 0 nc, .slice ra 0 rc, .slice ga 0 gc, .slice oa om oc, .slice (some ad) dn dc] 31) := Blk.of HB'.out (HYr.out.block _ HB'.out.lt)
              go_wp2
              go_roundw
              case rel => exact ⟨k + 1, by go_num, by omega, HYZ.out, HBZ.out⟩
              case measure => simp [intOf]; omega
            · have hml : m < ds.length := by omega
              have HA2 : Hid (_ = true) := HR2.out m hml hm
              have hk1 : 0 < k := by omega
              have hk2 : (0 : Int) < (k : Int) := by omega
              have hk5 : decide ((0 : Int) < (k : Int)) = true := decide_eq_true hk2
              have hk3 : (k : Int) - 1 = (m : Int) := by omega
              have hk4 : m < dn := by omega
              have HM0 : Hid (∀ W, Below y0.heap.size y0 W → W.cell? (ad.add (m * 3)) = some (.int .u64 ds[m].num)) := fun W hW => (HH'.out.below hW).at0 hml rfl
              have HM1 : Hid (∀ W, Below y0.heap.size y0 W → W.cell? ⟨(ad.add (m * 3)).block, (ad.add (m * 3)).off + 1, none⟩ = some (.int .i64 ds[m].node)) := fun W hW => (HH'.out.below hW).atS hml 0 rfl
              clear HH'
              have htk : tidOk q.num q.node = true := by
                have h := HR1.out
                unfold doneOk at h
                rw [Bool.and_eq_true] at h
                exact h.1
              have HTK : Hid (tidOk q.num q.node = true) := htk
              have HRK : Hid (nodesOk q.ns = true) := done_parts HR1.out
              clear htk
              have HEL : Hid (elderT (ds[m]).num (ds[m]).node q.num q.node = true) := HA2.out
              generalize ds[m] = m0 at *
              clear HR2 hm hml
              refine wp_region_ext (by kernel_rfl) ?_
              haveI nA := cls_ext y0.drew
              have u0 := cellX (W0 := y0.drew) (show y0.drew.cell? ⟨b, 0, none⟩ = some (.int .u64 q.num) from (Blk.of HQ.out ((Below.drew (Below.refl _ y0)).block _ HQ.out.lt)).cell 0)
              have u1 := cellX (W0 := y0.drew) (show y0.drew.cell? ⟨b, 1, none⟩ = some (.int .i64 q.node) from (Blk.of HQ.out ((Below.drew (Below.refl _ y0)).block _ HQ.out.lt)).cell 1)
              have u2 := cellX (W0 := y0.drew) (show y0.drew.cell? ⟨b, 2, none⟩ = some (.slice q.na q.nn q.nc) from (Blk.of HQ.out ((Below.drew (Below.refl _ y0)).block _ HQ.out.lt)).cell 2)
              have p9 := cellX (W0 := y0.drew) (show y0.drew.cell? ⟨w.heap.size, 11, none⟩ = some (.slice (some ad) dn dc) from (Blk.of HB'.out ((Below.drew (Below.refl _ y0)).block _ HB'.out.lt)).cell 11)
              have m9 := cellX (W0 := y0.drew) (HM0.out _ (Below.drew (Below.refl _ y0)))
              have m8 := cellX (W0 := y0.drew) (HM1.out _ (Below.drew (Below.refl _ y0)))
              have HYr : Hid (Below y0.heap.size y0 y0.drew) := Below.drew (Below.refl _ _)
              refine wpAnyH_seg (by kernel_rfl) (fun _ _ _ h => h) [0, 1] 25 _ _ _ (Ext.refl _) (by kernel_rfl) ?_
              simp only [opsAt, List.getElem?_toArray, List.getElem?_cons_zero, List.getElem?_cons_succ, List.cons_append, List.nil_append]
              repeat (go_big_quiet_step (fail))
              refine wpQuiet_nil ?_
              clear nA u0 u1 u2 p9 m9 m8
              refine wpAnyH_callE (i := 2) (fuel := 24) 257 rfl (by kernel_rfl) rfl (Ext.refl _) (by kernel_rfl) (f := 22) (args := #[.agg #[.int .u64 q.num, .int .i64 q.node]]) (by kernel_rfl) (tid_ok q.num q.node y0.drew HTK.out) ?_
              rintro e x1 ⟨rfl, y⟩
              refine ⟨_, rfl, y, ?_⟩
              have HYr' : Hid (Below y0.heap.size y0 x1) := ext_trans HYr.out y
              clear HYr y
              have HYr := HYr'
              clear HYr'
              simp only [Act.put, List.setIfInBounds_toArray, List.set_cons_succ, List.set_cons_zero]
              haveI nA := cls_ext x1
              have u0 := cellX (W0 := x1) (show x1.cell? ⟨b, 0, none⟩ = some (.int .u64 q.num) from (Blk.of HQ.out (HYr.out.block _ HQ.out.lt)).cell 0)
              have u1 := cellX (W0 := x1) (show x1.cell? ⟨b, 1, none⟩ = some (.int .i64 q.node) from (Blk.of HQ.out (HYr.out.block _ HQ.out.lt)).cell 1)
              have u2 := cellX (W0 := x1) (show x1.cell? ⟨b, 2, none⟩ = some (.slice q.na q.nn q.nc) from (Blk.of HQ.out (HYr.out.block _ HQ.out.lt)).cell 2)
              have p9 := cellX (W0 := x1) (show x1.cell? ⟨w.heap.size, 11, none⟩ = some (.slice (some ad) dn dc) from (Blk.of HB'.out (HYr.out.block _ HB'.out.lt)).cell 11)
              have m9 := cellX (W0 := x1) (HM0.out _ HYr.out)
              have m8 := cellX (W0 := x1) (HM1.out _ HYr.out)
              refine wpAnyH_seg (by kernel_rfl) (fun _ _ _ h => h) [3, 4, 5, 6] 20 _ _ _ (Ext.refl _) (by kernel_rfl) ?_
              simp only [opsAt, List.getElem?_toArray, List.getElem?_cons_zero, List.getElem?_cons_succ, List.cons_append, List.nil_append]
              repeat (go_big_quiet_step (fail))
              refine wpQuiet_nil ?_
              clear nA u0 u1 u2 p9 m9 m8
              refine wpAnyH_callE (i := 7) (fuel := 19) 262 rfl (by kernel_rfl) rfl (Ext.refl _) (by kernel_rfl) (f := 23) (args := #[.slice q.na q.nn q.nc]) (by kernel_rfl) (rising_ok _ q.ns x1 ((HQA.out.below HY'.out).below HYr.out).rd HRK.out) ?_
              rintro e x2 ⟨rfl, y⟩
              refine ⟨_, rfl, y, ?_⟩
              have HYr' : Hid (Below y0.heap.size y0 x2) := ext_trans HYr.out y
              clear HYr y
              have HYr := HYr'
              clear HYr'
              simp only [Act.put, List.setIfInBounds_toArray, List.set_cons_succ, List.set_cons_zero]
              haveI nA := cls_ext x2
              have u0 := cellX (W0 := x2) (show x2.cell? ⟨b, 0, none⟩ = some (.int .u64 q.num) from (Blk.of HQ.out (HYr.out.block _ HQ.out.lt)).cell 0)
              have u1 := cellX (W0 := x2) (show x2.cell? ⟨b, 1, none⟩ = some (.int .i64 q.node) from (Blk.of HQ.out (HYr.out.block _ HQ.out.lt)).cell 1)
              have u2 := cellX (W0 := x2) (show x2.cell? ⟨b, 2, none⟩ = some (.slice q.na q.nn q.nc) from (Blk.of HQ.out (HYr.out.block _ HQ.out.lt)).cell 2)
              have p9 := cellX (W0 := x2) (show x2.cell? ⟨w.heap.size, 11, none⟩ = some (.slice (some ad) dn dc) from (Blk.of HB'.out (HYr.out.block _ HB'.out.lt)).cell 11)
              have m9 := cellX (W0 := x2) (HM0.out _ HYr.out)
              have m8 := cellX (W0 := x2) (HM1.out _ HYr.out)
              refine wpAnyH_seg (by kernel_rfl) (fun _ _ _ h => h) [8, 9, 10, 11, 12, 13, 14, 15, 16, 17, 18, 19, 20, 21, 22] 4 _ _ _ (Ext.refl _) (by kernel_rfl) ?_
              simp only [opsAt, List.getElem?_toArray, List.getElem?_cons_zero, List.getElem?_cons_succ, List.cons_append, List.nil_append]
              repeat (go_big_quiet_step (fail))
              refine wpQuiet_nil ?_
              clear nA u0 u1 u2 p9 m9 m8
              refine wpAnyH_callE (i := 23) (fuel := 3) 278 rfl (by kernel_rfl) rfl (Ext.refl _) (by kernel_rfl) (f := 26) (args := #[.agg #[.int .u64 m0.num, .int .i64 m0.node], .agg #[.int .u64 q.num, .int .i64 q.node]]) (by kernel_rfl) (elder_ok m0.num m0.node q.num q.node x2 HEL.out) ?_
              rintro e x3 ⟨rfl, y⟩
              refine ⟨_, rfl, y, ?_⟩
              have HYr' : Hid (Below y0.heap.size y0 x3) := ext_trans HYr.out y
              clear HYr y
              have HYr := HYr'
              clear HYr'
              simp only [Act.put, List.setIfInBounds_toArray, List.set_cons_succ, List.set_cons_zero]
              haveI nA := cls_ext x3
              have u0 := cellX (W0 := x3) (show x3.cell? ⟨b, 0, none⟩ = some (.int .u64 q.num) from (Blk.of HQ.out (HYr.out.block _ HQ.out.lt)).cell 0)
              have u1 := cellX (W0 := x3) (show x3.cell? ⟨b, 1, none⟩ = some (.int .i64 q.node) from (Blk.of HQ.out (HYr.out.block _ HQ.out.lt)).cell 1)
              have u2 := cellX (W0 := x3) (show x3.cell? ⟨b, 2, none⟩ = some (.slice q.na q.nn q.nc) from (Blk.of HQ.out (HYr.out.block _ HQ.out.lt)).cell 2)
              have p9 := cellX (W0 := x3) (show x3.cell? ⟨w.heap.size, 11, none⟩ = some (.slice (some ad) dn dc) from (Blk.of HB'.out (HYr.out.block _ HB'.out.lt)).cell 11)
              have m9 := cellX (W0 := x3) (HM0.out _ HYr.out)
              have m8 := cellX (W0 := x3) (HM1.out _ HYr.out)
              refine wpAnyH_seg (by kernel_rfl) (fun _ _ _ h => h) [24, 25, 26] 0 _ _ _ (Ext.refl _) (by kernel_rfl) ?_
              simp only [opsAt, List.getElem?_toArray, List.getElem?_cons_zero, List.getElem?_cons_succ, List.cons_append, List.nil_append]
              repeat (go_big_quiet_step (fail))
              refine wpQuiet_nil ?_
              clear nA u0 u1 u2 p9 m9 m8
              refine wpAnyH_done (by kernel_rfl) (NoPanic.normal ?_) 0
              have HYZ : Hid (Below w.heap.size w x3) := ext_trans HY'.out HYr.out
              have HBZ : Hid (Blk x3 w.heap.size #[.int .i64 8, .int .u64 0, .int .i64 0, .string (⟨#[]⟩ : ByteArray), .bool false, .string (⟨#[]⟩ : ByteArray), .int .u64 0, .slice na 0 nc, .slice ra 0 rc, .slice ga 0 gc, .slice oa om oc, .slice (some ad) dn dc] 31) := Blk.of HB'.out (HYr.out.block _ HB'.out.lt)
              go_wp2
              go_roundw
              case rel => exact ⟨k + 1, by go_num, by omega, HYZ.out, HBZ.out⟩
              case measure => simp [intOf]; omega
          · clear hk
            rename World => wc
            go_wp2
            go_ret
            exact ⟨rfl, HY.out⟩
end Go.Proofs.YthkmohcdgnldgaaGreat
/- rec: the law's own right, of any right record. Own lemmas, no statement. -/
set_option linter.unusedSimpArgs false
set_option linter.unusedVariables false
namespace Go.Proofs.YthkmohcdgnldgaaGreat
open Go.ChangeShapes Go.WideShapes Go.ChangeAt Go.RowKit

theorem lawRight11_ok (x : RecV) (w : World) (h : x.At w) (hr : rightRec x = true) : Calls Tryz.prog 10 #[.agg #[.int .i64 x.kind, .int .u64 x.num, .int .i64 x.node, .string x.key, .bool x.was, .string x.old, .int .u64 x.prev, .slice x.na x.nn x.nc, .slice x.ra x.rn x.rc, .slice x.ga x.gn x.gc, .slice x.oa x.om x.oc, .slice x.da x.dn x.dc]] w (OkP w) := by
  have hk := (right_all hr).1
  have P := right_lists hr
  have e3 : ¬ x.kind = 3 → x.rn = 0 := fun hn => by have h1 := h.reads.at.1; rw [sv_length, P.n3 hn] at h1; exact h1
  have e6 : ¬ x.kind = 6 → x.nn = 0 := fun hn => by have h1 := h.nodes.at.1; rw [iv_length, P.n6 hn] at h1; exact h1
  have e8 : ¬ x.kind = 8 → x.om = 0 ∧ x.dn = 0 := fun hn => by
    have h1 := h.opens.len.1
    have h2 := h.dones.len.1
    rw [(P.n8 hn).1] at h1
    rw [(P.n8 hn).2] at h2
    exact ⟨h1, h2⟩
  have e2 : ¬ x.kind = 1 → ¬ x.kind = 2 → x.gn = 0 := fun hn hm => by have h1 := h.pages.len.1; rw [(P.n2 hn hm).2] at h1; exact h1
  have hns := h.nodes
  have hrs := h.reads
  rcases (show x.kind = 1 ∨ x.kind = 2 ∨ x.kind = 3 ∨ x.kind = 4 ∨ x.kind = 5 ∨ x.kind = 6 ∨ x.kind = 7 ∨ x.kind = 8 by omega) with k | k | k | k | k | k | k | k
  · have q6 := e3 (by omega)
    rw [q6] at hrs
    have q7 := e6 (by omega)
    rw [q7] at hns
    obtain ⟨q8, q9⟩ := e8 (by omega)
    obtain ⟨⟨k1, k2⟩, k3, k4⟩ := P.p1 k
    rw [k, q6, q7, q8, q9]
    exact right11_1 _ _ _ _ _ _ _ _ _ _ _ _ _ _ _ _ _ x.ns x.rs x.gs x.os x.ds w P.tid hns P.ns hrs P.rs P.pr h.pages h.pagez P.gs k1 k2 k3 k4
  · obtain ⟨q1, q2, q3⟩ := P.n1 (by omega)
    have q6 := e3 (by omega)
    rw [q6] at hrs
    have q7 := e6 (by omega)
    rw [q7] at hns
    obtain ⟨q8, q9⟩ := e8 (by omega)
    rw [k, q1, q2, q3, q6, q7, q8, q9]
    exact right11_2 _ _ _ _ _ _ _ _ _ _ _ _ _ _ x.ns x.rs x.gs x.os x.ds w P.tid hns P.ns hrs P.rs P.pr h.pages h.pagez P.gs
  · obtain ⟨q1, q2, q3⟩ := P.n1 (by omega)
    have q4 := (P.n2 (by omega) (by omega)).1
    have q5 := e2 (by omega) (by omega)
    have q7 := e6 (by omega)
    rw [q7] at hns
    obtain ⟨q8, q9⟩ := e8 (by omega)
    rw [k, q1, q2, q3, q4, q5, q7, q8, q9]
    exact right11_3 _ _ _ _ _ _ _ _ _ _ _ _ _ x.ns x.rs x.gs x.os x.ds w P.tid hns P.ns hrs P.rs
  · obtain ⟨q1, q2, q3⟩ := P.n1 (by omega)
    have q4 := (P.n2 (by omega) (by omega)).1
    have q5 := e2 (by omega) (by omega)
    have q6 := e3 (by omega)
    rw [q6] at hrs
    have q7 := e6 (by omega)
    rw [q7] at hns
    obtain ⟨q8, q9⟩ := e8 (by omega)
    rw [k, q1, q2, q3, q4, q5, q6, q7, q8, q9]
    exact right11_4 _ _ _ _ _ _ _ _ _ _ _ _ x.ns x.rs x.gs x.os x.ds w P.tid hns P.ns hrs P.rs
  · obtain ⟨q1, q2, q3⟩ := P.n1 (by omega)
    have q4 := (P.n2 (by omega) (by omega)).1
    have q5 := e2 (by omega) (by omega)
    have q6 := e3 (by omega)
    rw [q6] at hrs
    have q7 := e6 (by omega)
    rw [q7] at hns
    obtain ⟨q8, q9⟩ := e8 (by omega)
    rw [k, q1, q2, q3, q4, q5, q6, q7, q8, q9]
    exact right11_5 _ _ _ _ _ _ _ _ _ _ _ _ x.ns x.rs x.gs x.os x.ds w P.tid hns P.ns hrs P.rs
  · obtain ⟨q1, q2, q3⟩ := P.n1 (by omega)
    have q4 := (P.n2 (by omega) (by omega)).1
    have q5 := e2 (by omega) (by omega)
    have q6 := e3 (by omega)
    rw [q6] at hrs
    obtain ⟨q8, q9⟩ := e8 (by omega)
    rw [k, q1, q2, q3, q4, q5, q6, q8, q9]
    exact right11_6 _ _ _ _ _ _ _ _ _ _ _ _ _ x.ns x.rs x.gs x.os x.ds w P.tid hns P.ns hrs P.rs
  · obtain ⟨q1, q2, q3⟩ := P.n1 (by omega)
    have q4 := (P.n2 (by omega) (by omega)).1
    have q5 := e2 (by omega) (by omega)
    have q6 := e3 (by omega)
    rw [q6] at hrs
    have q7 := e6 (by omega)
    rw [q7] at hns
    obtain ⟨q8, q9⟩ := e8 (by omega)
    rw [k, q1, q2, q3, q4, q5, q6, q7, q8, q9]
    exact right11_7 _ _ _ _ _ _ _ _ _ _ _ _ x.ns x.rs x.gs x.os x.ds w P.tid hns P.ns hrs P.rs
  · obtain ⟨q1, q2, q3⟩ := P.n1 (by omega)
    have q4 := (P.n2 (by omega) (by omega)).1
    have q5 := e2 (by omega) (by omega)
    have q6 := e3 (by omega)
    rw [q6] at hrs
    have q7 := e6 (by omega)
    rw [q7] at hns
    obtain ⟨t1, t2⟩ := P.t8 k
    rw [k, q1, q2, q3, q4, q5, q6, q7, t1, t2]
    exact right11_8 _ _ _ _ _ _ _ _ _ _ _ _ x.ns x.rs x.gs x.os x.ds w rfl hns P.ns hrs P.rs h.opens h.openz P.os h.dones h.donez P.ds
end Go.Proofs.YthkmohcdgnldgaaGreat
/- RecReads: the walk of the law's Go text. -/
set_option linter.unusedSimpArgs false
set_option linter.unusedVariables false
namespace Go.Proofs.YthkmohcdgnldgaaGreat
open Go.ChangeShapes Go.WideShapes Go.ChangeAt Go.RowKit

def zeroW : RecV := ⟨0, 0, 0, ⟨#[]⟩, false, ⟨#[]⟩, 0, none, 0, 0, [], none, 0, 0, [], none, 0, 0, [], none, 0, 0, [], none, 0, 0, []⟩
theorem zeroW_at (W : World) : zeroW.At W := ⟨Nat.zero_le _, Nat.zero_le _, Rd.nil _, Rd.nil _, fun _ h => (by cases h), RowsN.nil _ _ _, fun _ h => (by cases h), RowsN.nil _ _ _, fun _ h => (by cases h), RowsN.nil _ _ _, fun _ h => (by cases h)⟩
set_option maxRecDepth 100000 in
set_option maxHeartbeats 8000000 in
theorem walk_RecReads (ao : Option Addr) (len cap : Nat) (zs : List Int) (w : World) (hrow : IsRow .u8 w ao len cap zs) :
    Calls Tryz.prog 4 #[.slice ao len cap] w fun e w' => e = .returned (.bool true) ∧ Below w.heap.size w w' := by
  obtain ⟨l, hs, hlen⟩ := isRow_src hrow
  have HS : Hid (Src w (.slice ao len cap) l) := hs
  have HLN : Hid (l.length = len) := hlen
  clear hrow hs hlen
  go_enter Tryz.func4, Tryz.ntmps4
  go_wp2_with fail
  refine (head11_any _).mono ?_
  rintro e w1 ⟨rfl, y⟩
  have HY1 : Hid (Below w.heap.size w w1) := y
  clear y
  by_cases hn : 3000 < len
  · go_wp2
    go_ret
    exact ⟨rfl, HY1.out⟩
  go_wp2_with fail
  refine (recDecode_any _ l w1 (HS.out.below HY1.out) (by have := HLN.out; omega)).mono ?_
  rintro e w2 ⟨hd, y⟩
  have HY2 : Hid (Below w.heap.size w w2) := ext_trans HY1.out y
  clear y HY1 hn
  rcases hd with ⟨z, rfl, hz, wz, rz, bz, _, _⟩ | ⟨rfl, _⟩
  · have HZ : Hid (z.At w2) := hz
    have HRZ : Hid (rightRec z = true) := rz
    have HWZ : Hid z.Wf := wz
    have HBZ : Hid (recBytes z = l) := bz
    clear hz wz rz bz
    unfold recVal
    have HB3 : Hid (Blk (w2.alloc (.cells #[.int .i64 z.kind, .int .u64 z.num, .int .i64 z.node, .string z.key, .bool z.was, .string z.old, .int .u64 z.prev, .slice z.na z.nn z.nc, .slice z.ra z.rn z.rc, .slice z.ga z.gn z.gc, .slice z.oa z.om z.oc, .slice z.da z.dn z.dc] 31)) w2.heap.size #[.int .i64 z.kind, .int .u64 z.num, .int .i64 z.node, .string z.key, .bool z.was, .string z.old, .int .u64 z.prev, .slice z.na z.nn z.nc, .slice z.ra z.rn z.rc, .slice z.ga z.gn z.gc, .slice z.oa z.om z.oc, .slice z.da z.dn z.dc] 31) := Blk.new _ _ _
    have HY3 : Hid (Below w.heap.size w (w2.alloc (.cells #[.int .i64 z.kind, .int .u64 z.num, .int .i64 z.node, .string z.key, .bool z.was, .string z.old, .int .u64 z.prev, .slice z.na z.nn z.nc, .slice z.ra z.rn z.rc, .slice z.ga z.gn z.gc, .slice z.oa z.om z.oc, .slice z.da z.dn z.dc] 31))) := HY2.out.alloc HY2.out.size _
    have HZ3 : Hid (z.At (w2.alloc (.cells #[.int .i64 z.kind, .int .u64 z.num, .int .i64 z.node, .string z.key, .bool z.was, .string z.old, .int .u64 z.prev, .slice z.na z.nn z.nc, .slice z.ra z.rn z.rc, .slice z.ga z.gn z.gc, .slice z.oa z.om z.oc, .slice z.da z.dn z.dc] 31))) := HZ.out.below (below_allocR _)
    go_upto_region 8 with fail
    clear HZ HY2
    generalize w2.alloc (.cells #[.int .i64 z.kind, .int .u64 z.num, .int .i64 z.node, .string z.key, .bool z.was, .string z.old, .int .u64 z.prev, .slice z.na z.nn z.nc, .slice z.ra z.rn z.rc, .slice z.ga z.gn z.gc, .slice z.oa z.om z.oc, .slice z.da z.dn z.dc] 31) = w3 at *
    generalize w2.heap.size = zb at *
    refine wp_region_ext (by kernel_rfl) ?_
    haveI nA := cls_ext w3.drew
    have z0 := cellX (W0 := w3.drew) (show w3.drew.cell? ⟨zb, 0, none⟩ = some (.int .i64 z.kind) from HB3.out.cell 0)
    have z1 := cellX (W0 := w3.drew) (show w3.drew.cell? ⟨zb, 1, none⟩ = some (.int .u64 z.num) from HB3.out.cell 1)
    have z2 := cellX (W0 := w3.drew) (show w3.drew.cell? ⟨zb, 2, none⟩ = some (.int .i64 z.node) from HB3.out.cell 2)
    have z3 := cellX (W0 := w3.drew) (show w3.drew.cell? ⟨zb, 3, none⟩ = some (.string z.key) from HB3.out.cell 3)
    have z4 := cellX (W0 := w3.drew) (show w3.drew.cell? ⟨zb, 4, none⟩ = some (.bool z.was) from HB3.out.cell 4)
    have z5 := cellX (W0 := w3.drew) (show w3.drew.cell? ⟨zb, 5, none⟩ = some (.string z.old) from HB3.out.cell 5)
    have z6 := cellX (W0 := w3.drew) (show w3.drew.cell? ⟨zb, 6, none⟩ = some (.int .u64 z.prev) from HB3.out.cell 6)
    have z7 := cellX (W0 := w3.drew) (show w3.drew.cell? ⟨zb, 7, none⟩ = some (.slice z.na z.nn z.nc) from HB3.out.cell 7)
    have z8 := cellX (W0 := w3.drew) (show w3.drew.cell? ⟨zb, 8, none⟩ = some (.slice z.ra z.rn z.rc) from HB3.out.cell 8)
    have z9 := cellX (W0 := w3.drew) (show w3.drew.cell? ⟨zb, 9, none⟩ = some (.slice z.ga z.gn z.gc) from HB3.out.cell 9)
    have z10 := cellX (W0 := w3.drew) (show w3.drew.cell? ⟨zb, 10, none⟩ = some (.slice z.oa z.om z.oc) from HB3.out.cell 10)
    have z11 := cellX (W0 := w3.drew) (show w3.drew.cell? ⟨zb, 11, none⟩ = some (.slice z.da z.dn z.dc) from HB3.out.cell 11)
    refine wpAnyH_seg (by kernel_rfl) (fun _ _ _ h => h) [0] 10 _ _ _ (Ext.refl _) (by kernel_rfl) ?_
    simp only [opsAt, List.getElem?_toArray, List.getElem?_cons_zero, List.getElem?_cons_succ, List.cons_append, List.nil_append]
    repeat (go_big_quiet_step (fail))
    refine wpQuiet_nil ?_
    clear nA z0 z1 z2 z3 z4 z5 z6 z7 z8 z9 z10 z11
    refine wpAnyH_callE (i := 1) (fuel := 9) 25 rfl (by kernel_rfl) rfl (Ext.refl _) (by kernel_rfl) (f := 10) (args := #[.agg #[.int .i64 z.kind, .int .u64 z.num, .int .i64 z.node, .string z.key, .bool z.was, .string z.old, .int .u64 z.prev, .slice z.na z.nn z.nc, .slice z.ra z.rn z.rc, .slice z.ga z.gn z.gc, .slice z.oa z.om z.oc, .slice z.da z.dn z.dc]]) (by kernel_rfl) (lawRight11_ok z w3.drew (HZ3.out.below (Below.drew (Below.refl _ w3))) HRZ.out) ?_
    rintro e w4 ⟨rfl, y⟩
    refine ⟨_, rfl, y, ?_⟩
    have HB4 : Hid (Blk w4 zb #[.int .i64 z.kind, .int .u64 z.num, .int .i64 z.node, .string z.key, .bool z.was, .string z.old, .int .u64 z.prev, .slice z.na z.nn z.nc, .slice z.ra z.rn z.rc, .slice z.ga z.gn z.gc, .slice z.oa z.om z.oc, .slice z.da z.dn z.dc] 31) := Blk.of HB3.out (y.block _ HB3.out.lt)
    have HY4 : Hid (Below w.heap.size w w4) := ext_trans (Below.drew HY3.out) y
    have HZ4 : Hid (z.At w4) := (HZ3.out.below (Below.drew (Below.refl _ w3))).below y
    clear y HB3 HY3 HZ3
    simp only [Act.put, List.setIfInBounds_toArray, List.set_cons_succ, List.set_cons_zero]
    haveI nB := cls_ext w4
    have z0 := cellX (W0 := w4) (show w4.cell? ⟨zb, 0, none⟩ = some (.int .i64 z.kind) from HB4.out.cell 0)
    have z1 := cellX (W0 := w4) (show w4.cell? ⟨zb, 1, none⟩ = some (.int .u64 z.num) from HB4.out.cell 1)
    have z2 := cellX (W0 := w4) (show w4.cell? ⟨zb, 2, none⟩ = some (.int .i64 z.node) from HB4.out.cell 2)
    have z3 := cellX (W0 := w4) (show w4.cell? ⟨zb, 3, none⟩ = some (.string z.key) from HB4.out.cell 3)
    have z4 := cellX (W0 := w4) (show w4.cell? ⟨zb, 4, none⟩ = some (.bool z.was) from HB4.out.cell 4)
    have z5 := cellX (W0 := w4) (show w4.cell? ⟨zb, 5, none⟩ = some (.string z.old) from HB4.out.cell 5)
    have z6 := cellX (W0 := w4) (show w4.cell? ⟨zb, 6, none⟩ = some (.int .u64 z.prev) from HB4.out.cell 6)
    have z7 := cellX (W0 := w4) (show w4.cell? ⟨zb, 7, none⟩ = some (.slice z.na z.nn z.nc) from HB4.out.cell 7)
    have z8 := cellX (W0 := w4) (show w4.cell? ⟨zb, 8, none⟩ = some (.slice z.ra z.rn z.rc) from HB4.out.cell 8)
    have z9 := cellX (W0 := w4) (show w4.cell? ⟨zb, 9, none⟩ = some (.slice z.ga z.gn z.gc) from HB4.out.cell 9)
    have z10 := cellX (W0 := w4) (show w4.cell? ⟨zb, 10, none⟩ = some (.slice z.oa z.om z.oc) from HB4.out.cell 10)
    have z11 := cellX (W0 := w4) (show w4.cell? ⟨zb, 11, none⟩ = some (.slice z.da z.dn z.dc) from HB4.out.cell 11)
    have u2 := Src.strE (W0 := w4) (HS.out.below HY4.out)
    refine wpAnyH_seg (by kernel_rfl) (fun _ _ _ h => h) [2, 3, 6, 7] 5 _ _ _ (Ext.refl _) (by kernel_rfl) ?_
    simp only [opsAt, List.getElem?_toArray, List.getElem?_cons_zero, List.getElem?_cons_succ, List.cons_append, List.nil_append]
    repeat (go_big_quiet_step (fail))
    refine wpQuiet_nil ?_
    clear nB u2 z0 z1 z2 z3 z4 z5 z6 z7 z8 z9 z10 z11
    refine wpAnyH_callE (i := 4) (fuel := 4) 28 rfl (by kernel_rfl) rfl (Ext.refl _) (by kernel_rfl) (f := 11) (args := #[.agg #[.int .i64 z.kind, .int .u64 z.num, .int .i64 z.node, .string z.key, .bool z.was, .string z.old, .int .u64 z.prev, .slice z.na z.nn z.nc, .slice z.ra z.rn z.rc, .slice z.ga z.gn z.gc, .slice z.oa z.om z.oc, .slice z.da z.dn z.dc]]) (by kernel_rfl) (lawBytes11_any z w4 HZ4.out HWZ.out HRZ.out) ?_
    rintro e w5 ⟨v5, rfl, hs5, y⟩
    refine ⟨_, rfl, y, ?_⟩
    rw [HBZ.out] at hs5
    have HY5 : Hid (Below w.heap.size w w5) := ext_trans HY4.out y
    clear y HB4 HY4 HZ4
    simp only [Act.put, List.setIfInBounds_toArray, List.set_cons_succ, List.set_cons_zero]
    haveI nC := cls_ext w5
    have u1 := Src.strE (W0 := w5) hs5
    refine wpAnyH_seg (by kernel_rfl) (fun _ _ _ h => h) [5, 8, 9, 10] 0 _ _ _ (Ext.refl _) (by kernel_rfl) ?_
    simp only [opsAt, List.getElem?_toArray, List.getElem?_cons_zero, List.getElem?_cons_succ, List.cons_append, List.nil_append]
    repeat (go_big_quiet_step (fail))
    refine wpQuiet_nil ?_
    clear nC u1 hs5
    refine wpAnyH_done (by kernel_rfl) (NoPanic.normal ?_) 0
    go_wp2
    go_ret
    exact ⟨ret_bool (by simp), HY5.out⟩
  · have HB3 : Hid (Blk (w2.alloc (.cells #[.int .i64 0, .int .u64 0, .int .i64 0, .string ⟨#[]⟩, .bool false, .string ⟨#[]⟩, .int .u64 0, .slice none 0 0, .slice none 0 0, .slice none 0 0, .slice none 0 0, .slice none 0 0] 31)) w2.heap.size #[.int .i64 0, .int .u64 0, .int .i64 0, .string ⟨#[]⟩, .bool false, .string ⟨#[]⟩, .int .u64 0, .slice none 0 0, .slice none 0 0, .slice none 0 0, .slice none 0 0, .slice none 0 0] 31) := Blk.new _ _ _
    have HY3 : Hid (Below w.heap.size w (w2.alloc (.cells #[.int .i64 0, .int .u64 0, .int .i64 0, .string ⟨#[]⟩, .bool false, .string ⟨#[]⟩, .int .u64 0, .slice none 0 0, .slice none 0 0, .slice none 0 0, .slice none 0 0, .slice none 0 0] 31))) := HY2.out.alloc HY2.out.size _
    go_upto_region 7 with fail
    clear HY2
    generalize w2.alloc (.cells #[.int .i64 0, .int .u64 0, .int .i64 0, .string ⟨#[]⟩, .bool false, .string ⟨#[]⟩, .int .u64 0, .slice none 0 0, .slice none 0 0, .slice none 0 0, .slice none 0 0, .slice none 0 0] 31) = w3 at *
    generalize w2.heap.size = zb at *
    have z0 : w3.cell? ⟨zb, 0, none⟩ = some (.int .i64 0) := HB3.out.cell 0
    have z1 : w3.cell? ⟨zb, 1, none⟩ = some (.int .u64 0) := HB3.out.cell 1
    have z2 : w3.cell? ⟨zb, 2, none⟩ = some (.int .i64 0) := HB3.out.cell 2
    have z3 : w3.cell? ⟨zb, 3, none⟩ = some (.string ⟨#[]⟩) := HB3.out.cell 3
    have z4 : w3.cell? ⟨zb, 4, none⟩ = some (.bool false) := HB3.out.cell 4
    have z5 : w3.cell? ⟨zb, 5, none⟩ = some (.string ⟨#[]⟩) := HB3.out.cell 5
    have z6 : w3.cell? ⟨zb, 6, none⟩ = some (.int .u64 0) := HB3.out.cell 6
    have z7 : w3.cell? ⟨zb, 7, none⟩ = some (.slice none 0 0) := HB3.out.cell 7
    have z8 : w3.cell? ⟨zb, 8, none⟩ = some (.slice none 0 0) := HB3.out.cell 8
    have z9 : w3.cell? ⟨zb, 9, none⟩ = some (.slice none 0 0) := HB3.out.cell 9
    have z10 : w3.cell? ⟨zb, 10, none⟩ = some (.slice none 0 0) := HB3.out.cell 10
    have z11 : w3.cell? ⟨zb, 11, none⟩ = some (.slice none 0 0) := HB3.out.cell 11
    go_wp2_with fail
    refine (same11_any zeroW zeroW w3 (zeroW_at _) (zeroW_at _)).mono ?_
    rintro e w4 ⟨b, rfl, hb, y⟩
    have hbt : b = true := hb.2 rfl
    subst hbt
    have HY4 : Hid (Below w.heap.size w w4) := ext_trans HY3.out y
    clear hb y
    go_wp2
    go_ret
    exact ⟨rfl, HY4.out⟩
end Go.Proofs.YthkmohcdgnldgaaGreat
/- RecReads: for every input the law's Go text returns true and leaves what was there as it was. Conditions: none but the form's own. -/
namespace Go.Proofs.YthkmohcdgnldgaaGreat.recReadsDone
open Go.ChangeShapes Go.WideShapes Go.ChangeAt Go.RowKit
open Go.ChangeMaps (open_string shut_string)

theorem own : ownKnob Tryz.prog.godebug = none := by kernel_rfl
theorem laidOut : laidOutB Tryz.prog = true := by kernel_rfl

set_option maxRecDepth 100000 in
theorem lifted (os : Os) (started : os.Started) (H : Type) (enc : TypeId × Value → H) :
    ReturnsInHanded {} Tryz.checked os 4 .any (Rows.recReadsSpec.pre6 enc Tryz.prog Tryz.f4 Rows.recReadsRow.domain false) (Rows.recReadsSpec.post enc Tryz.prog Tryz.f4 false true false false) := by
  refine returnsInHanded_of_change (C := Tryz.checked) own started (by kernel_rfl) Tryz.func4
    (ChangeSpec.witness6 (enc := enc) (C := Tryz.checked) false ⟨#[], #[.slice none 0 0], []⟩ 8 (by kernel_rfl) (by kernel_rfl) (by kernel_rfl) (by kernel_rfl)) ?_
  intro W base args ds gs before hval0 hW hcnd _
  have hval : ∀ (j : Nat) t v, Tryz.f4.params[j]? = some t → args[j]? = some v → Value.okWide Tryz.prog W .any base t v := hval0
  have hW' := hW
  obtain ⟨p, q, hA0, hV, rfl, hfz, hnd⟩ := hW
  have hA : DataW.TrodAll enc Tryz.prog W 0 (fun _ => true) true Tryz.f4.params.toList args.toList ds p := hA0
  rw [Tryz.params4] at hA hval
  obtain ⟨v0, vs0, d0, ds0, p0, q0, hargs, rfl, rfl, h0, r0⟩ := trodAll_cons hA
  obtain ⟨rfl, rfl, rfl⟩ := trodAll_nil r0
  obtain rfl : args = #[v0] := by cases args; simp_all
  obtain ⟨rfl, rfl⟩ := trodVars_none hV
  have k0 := h0
  have lt0 : ∀ x ∈ p0, x.block < W.heap.size := by obtain ⟨m, hm⟩ := k0; exact DataW.trod_lt m _ _ _ hm
  obtain ⟨a0, len0, cap0, rfl⟩ := okWide_slice Tryz.underlying34 (hval 0 34 v0 rfl rfl)
  obtain ⟨z0, w0⟩ : ∃ zs, IsRow .u8 W a0 len0 cap0 zs := isRow_of Tryz.underlying34 Tryz.underlying5 (by kernel_rfl) h0
  clear hA0 hval0
  refine (walk_RecReads a0 len0 cap0 z0 W w0).mono fun e W' ⟨he, bel⟩ => ?_
  subst he
  exact ⟨_, rfl, _, _, _, [], _, [], hW', trodAll_mk1 (shut_bool Tryz.underlying4 _), (trodAll_cons_mk (Below.trod laidOut (by kernel_rfl) (of_decide_eq_true (by kernel_rfl)) k0 bel lt0) trodAll_mk0), rfl, bel.frame _, fun h => by cases h⟩

theorem over : Rows.recReadsRow.holds Tryz.pinned (OpenSpec.ofChange Rows.recReadsSpec) :=
  OpenClaim.holds_of_wide 4 Tryz.f4 rfl rfl rfl rfl rfl rfl rfl ⟨rfl, rfl, rfl, rfl, rfl⟩ rfl rfl rfl rfl rfl (by kernel_rfl) Tryz.func4 (by kernel_rfl)
    (of_decide_eq_true (by kernel_rfl)) (by unfold Func.isWrapper; first | (rw [if_pos (by decide +kernel)]; kernel_rfl) | (rw [if_neg (by decide +kernel)]; exact ⟨rfl, rfl⟩))
    (fun os started H enc _ => lifted os started H enc)
end Go.Proofs.YthkmohcdgnldgaaGreat.recReadsDone

namespace Go.Proofs.YthkmohcdgnldgaaGreat
/-- The statement. -/
theorem recReads_holds : Rows.RecReadsSaid := recReadsDone.over
#print axioms recReads_holds
end Go.Proofs.YthkmohcdgnldgaaGreat

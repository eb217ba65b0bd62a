import Derived.Test.YtbgofajldkblmaaGreatH5
import Derived.Test.YtbgofajldkblmaaGreatH6
import Derived.Test.YtbgofajldkblmaaGreatG2
import Derived.Test.YtbgofajldkblmaaGreatRec13
import Derived.Test.YtbgofajldkblmaaGreatRec14
import Derived.ProofKit
import Derived.OpenShut
import Derived.ShutString
import Derived.ChangeOld
/- rec: the law's right of any record; Decode of a right record's bytes. Own lemmas, no statement. -/
set_option linter.unusedSimpArgs false
set_option linter.unusedVariables false
namespace Go.Proofs.YtbgofajldkblmaaGreat
open Go.ChangeShapes Go.WideShapes Go.ChangeAt Go.RowKit

set_option maxRecDepth 100000 in
set_option maxHeartbeats 4000000 in
theorem right12_0 (kind num node : Int) (key : ByteArray) (was : Bool) (old : ByteArray) (prev : Int) (na : Option Addr) (nn nc : Nat) (ra : Option Addr) (rn rc : Nat) (ga : Option Addr) (gn gc : Nat) (oa : Option Addr) (om oc : Nat) (da : Option Addr) (dn dc : Nat) (w : World) (hk : kind < 1 ∨ 8 < kind) :
    Calls Tryz.prog 10 #[.agg #[.int .i64 kind, .int .u64 num, .int .i64 node, .string key, .bool was, .string old, .int .u64 prev, .slice na nn nc, .slice ra rn rc, .slice ga gn gc, .slice oa om oc, .slice da dn dc]] w (BoolP false w) := by
  have HB : Hid (Blk (w.alloc (.cells #[.int .i64 kind, .int .u64 num, .int .i64 node, .string key, .bool was, .string old, .int .u64 prev, .slice na nn nc, .slice ra rn rc, .slice ga gn gc, .slice oa om oc, .slice da dn dc] 31)) w.heap.size #[.int .i64 kind, .int .u64 num, .int .i64 node, .string key, .bool was, .string old, .int .u64 prev, .slice na nn nc, .slice ra rn rc, .slice ga gn gc, .slice oa om oc, .slice da dn dc] 31) := Blk.new _ _ _
  have HY : Hid (Below w.heap.size w (w.alloc (.cells #[.int .i64 kind, .int .u64 num, .int .i64 node, .string key, .bool was, .string old, .int .u64 prev, .slice na nn nc, .slice ra rn rc, .slice ga gn gc, .slice oa om oc, .slice da dn dc] 31))) := (Below.refl _ _).alloc (Nat.le_refl _) _
  go_enter Tryz.func10, Tryz.ntmps10
  go_upto_region 1 with fail
  generalize (w.alloc (.cells #[.int .i64 kind, .int .u64 num, .int .i64 node, .string key, .bool was, .string old, .int .u64 prev, .slice na nn nc, .slice ra rn rc, .slice ga gn gc, .slice oa om oc, .slice da dn dc] 31)) = w0 at *
  have z0 : w0.cell? ⟨w.heap.size, 0, none⟩ = some (.int .i64 kind) := HB.out.cell 0
  have z1 : w0.cell? ⟨w.heap.size, 1, none⟩ = some (.int .u64 num) := HB.out.cell 1
  have z2 : w0.cell? ⟨w.heap.size, 2, none⟩ = some (.int .i64 node) := HB.out.cell 2
  have z3 : w0.cell? ⟨w.heap.size, 3, none⟩ = some (.string key) := HB.out.cell 3
  have z4 : w0.cell? ⟨w.heap.size, 4, none⟩ = some (.bool was) := HB.out.cell 4
  have z5 : w0.cell? ⟨w.heap.size, 5, none⟩ = some (.string old) := HB.out.cell 5
  have z6 : w0.cell? ⟨w.heap.size, 6, none⟩ = some (.int .u64 prev) := HB.out.cell 6
  have z7 : w0.cell? ⟨w.heap.size, 7, none⟩ = some (.slice na nn nc) := HB.out.cell 7
  have z8 : w0.cell? ⟨w.heap.size, 8, none⟩ = some (.slice ra rn rc) := HB.out.cell 8
  have z9 : w0.cell? ⟨w.heap.size, 9, none⟩ = some (.slice ga gn gc) := HB.out.cell 9
  have z10 : w0.cell? ⟨w.heap.size, 10, none⟩ = some (.slice oa om oc) := HB.out.cell 10
  have z11 : w0.cell? ⟨w.heap.size, 11, none⟩ = some (.slice da dn dc) := HB.out.cell 11
  by_cases h1 : kind < 1
  · go_wp2
    go_ret
    exact ⟨rfl, HY.out⟩
  · have h8 : 8 < kind := by omega
    clear hk
    go_wp2
    go_ret
    exact ⟨rfl, HY.out⟩
theorem lawRight12_any (x : RecV) (w : World) (h : x.At w) (ho : x.om ≤ 20) (hd : x.dn ≤ 20) : Calls Tryz.prog 10 #[.agg #[.int .i64 x.kind, .int .u64 x.num, .int .i64 x.node, .string x.key, .bool x.was, .string x.old, .int .u64 x.prev, .slice x.na x.nn x.nc, .slice x.ra x.rn x.rc, .slice x.ga x.gn x.gc, .slice x.oa x.om x.oc, .slice x.da x.dn x.dc]] w (BoolP (rightRec x) w) := by
  rcases (show (x.kind < 1 ∨ 8 < x.kind) ∨ x.kind = 1 ∨ x.kind = 2 ∨ x.kind = 3 ∨ x.kind = 4 ∨ x.kind = 5 ∨ x.kind = 6 ∨ x.kind = 7 ∨ x.kind = 8 by omega) with k | k | k | k | k | k | k | k | k
  · have e : rightRec x = false := by
      cases e : rightRec x with
      | false => rfl
      | true => have h1 := (right_all e).1; omega
    rw [e]
    exact right12_0 _ _ _ _ _ _ _ _ _ _ _ _ _ _ _ _ _ _ _ _ _ _ w k
  · obtain ⟨kind, num, node, key, was, old, prev, na, nn, nc, ns, ra, rn, rc, rs, ga, gn, gc, gs, oa, om, oc, os, da, dn, dc, ds⟩ := x
    have k' : kind = 1 := k
    subst k'
    exact right12_1 num node key was old prev na nn nc ns ra rn rc rs ga gn gc gs oa om oc os da dn dc ds w _ h.nodes h.reads h.pages h.pagez h.opens h.openz h.dones h.donez ho hd h.keyz h.oldz right_lists (parts_right (show (1 : Int) ≤ 1 by decide) (show (1 : Int) ≤ 8 by decide))
  · obtain ⟨kind, num, node, key, was, old, prev, na, nn, nc, ns, ra, rn, rc, rs, ga, gn, gc, gs, oa, om, oc, os, da, dn, dc, ds⟩ := x
    have k' : kind = 2 := k
    subst k'
    exact right12_2 num node key was old prev na nn nc ns ra rn rc rs ga gn gc gs oa om oc os da dn dc ds w _ h.nodes h.reads h.pages h.pagez h.opens h.openz h.dones h.donez ho hd h.keyz h.oldz right_lists (parts_right (show (1 : Int) ≤ 2 by decide) (show (2 : Int) ≤ 8 by decide))
  · obtain ⟨kind, num, node, key, was, old, prev, na, nn, nc, ns, ra, rn, rc, rs, ga, gn, gc, gs, oa, om, oc, os, da, dn, dc, ds⟩ := x
    have k' : kind = 3 := k
    subst k'
    exact right12_3 num node key was old prev na nn nc ns ra rn rc rs ga gn gc gs oa om oc os da dn dc ds w _ h.nodes h.reads h.pages h.pagez h.opens h.openz h.dones h.donez ho hd h.keyz h.oldz right_lists (parts_right (show (1 : Int) ≤ 3 by decide) (show (3 : Int) ≤ 8 by decide))
  · obtain ⟨kind, num, node, key, was, old, prev, na, nn, nc, ns, ra, rn, rc, rs, ga, gn, gc, gs, oa, om, oc, os, da, dn, dc, ds⟩ := x
    have k' : kind = 4 := k
    subst k'
    exact right12_4 num node key was old prev na nn nc ns ra rn rc rs ga gn gc gs oa om oc os da dn dc ds w _ h.nodes h.reads h.pages h.pagez h.opens h.openz h.dones h.donez ho hd h.keyz h.oldz right_lists (parts_right (show (1 : Int) ≤ 4 by decide) (show (4 : Int) ≤ 8 by decide))
  · obtain ⟨kind, num, node, key, was, old, prev, na, nn, nc, ns, ra, rn, rc, rs, ga, gn, gc, gs, oa, om, oc, os, da, dn, dc, ds⟩ := x
    have k' : kind = 5 := k
    subst k'
    exact right12_5 num node key was old prev na nn nc ns ra rn rc rs ga gn gc gs oa om oc os da dn dc ds w _ h.nodes h.reads h.pages h.pagez h.opens h.openz h.dones h.donez ho hd h.keyz h.oldz right_lists (parts_right (show (1 : Int) ≤ 5 by decide) (show (5 : Int) ≤ 8 by decide))
  · obtain ⟨kind, num, node, key, was, old, prev, na, nn, nc, ns, ra, rn, rc, rs, ga, gn, gc, gs, oa, om, oc, os, da, dn, dc, ds⟩ := x
    have k' : kind = 6 := k
    subst k'
    exact right12_6 num node key was old prev na nn nc ns ra rn rc rs ga gn gc gs oa om oc os da dn dc ds w _ h.nodes h.reads h.pages h.pagez h.opens h.openz h.dones h.donez ho hd h.keyz h.oldz right_lists (parts_right (show (1 : Int) ≤ 6 by decide) (show (6 : Int) ≤ 8 by decide))
  · obtain ⟨kind, num, node, key, was, old, prev, na, nn, nc, ns, ra, rn, rc, rs, ga, gn, gc, gs, oa, om, oc, os, da, dn, dc, ds⟩ := x
    have k' : kind = 7 := k
    subst k'
    exact right12_7 num node key was old prev na nn nc ns ra rn rc rs ga gn gc gs oa om oc os da dn dc ds w _ h.nodes h.reads h.pages h.pagez h.opens h.openz h.dones h.donez ho hd h.keyz h.oldz right_lists (parts_right (show (1 : Int) ≤ 7 by decide) (show (7 : Int) ≤ 8 by decide))
  · obtain ⟨kind, num, node, key, was, old, prev, na, nn, nc, ns, ra, rn, rc, rs, ga, gn, gc, gs, oa, om, oc, os, da, dn, dc, ds⟩ := x
    have k' : kind = 8 := k
    subst k'
    exact right12_8 num node key was old prev na nn nc ns ra rn rc rs ga gn gc gs oa om oc os da dn dc ds w _ h.nodes h.reads h.pages h.pagez h.opens h.openz h.dones h.donez ho hd h.keyz h.oldz right_lists (parts_right (show (1 : Int) ≤ 8 by decide) (show (8 : Int) ≤ 8 by decide))
def chgOkQ (x : ChgQ) : Bool := decide (0 ≤ x.n) && decide (x.n < 65536) && rightPg x.p
def chgLtQ (x y : ChgQ) : Bool := ltI x.n y.n
def openOkQ (x : OpenQ) : Bool := tidOk x.num x.node && decide (x.last ≤ 4611686018427387904) && decide (x.first ≤ 4611686018427387904) && decide (0 ≤ x.count) && decide (x.count ≤ 1073741824) && readsOk x.rs
def openLtQ (x y : OpenQ) : Bool := elderT x.num x.node y.num y.node
def doneOkQ (x : DoneQ) : Bool := tidOk x.num x.node && nodesOk x.ns
def doneLtQ (x y : DoneQ) : Bool := elderT x.num x.node y.num y.node
theorem fits_c (m : Nat) (l : List ChgV) : fitsB chgOk chgLt noChg m l = fitsB chgOkQ chgLtQ noChg.q m (l.map ChgV.q) := fits_map ChgV.q (r := chgOkQ) (a := chgLtQ)
theorem fits_o (m : Nat) (l : List OpenV) : fitsB openOk openLt noOpen m l = fitsB openOkQ openLtQ noOpen.q m (l.map OpenV.q) := fits_map OpenV.q (r := openOkQ) (a := openLtQ)
theorem fits_d (m : Nat) (l : List DoneV) : fitsB doneOk doneLt noDone m l = fitsB doneOkQ doneLtQ noDone.q m (l.map DoneV.q) := fits_map DoneV.q (r := doneOkQ) (a := doneLtQ)
theorem right_q {x y : RecV} (h : x.q = y.q) : rightRec x = rightRec y := by
  have h' : RecQ.mk _ _ _ _ _ _ _ _ _ _ _ _ = RecQ.mk _ _ _ _ _ _ _ _ _ _ _ _ := h
  rw [RecQ.mk.injEq] at h'
  obtain ⟨e1, e2, e3, e4, e5, e6, e7, e8, e9, e10, e11, e12⟩ := h'
  have l1 : x.gs.length = y.gs.length := by have := congrArg List.length e10; simpa using this
  have l2 : x.os.length = y.os.length := by have := congrArg List.length e11; simpa using this
  have l3 : x.ds.length = y.ds.length := by have := congrArg List.length e12; simpa using this
  unfold rightRec rtTid rtOld rtTurn rtLists rtReads rtNodes rtOpens rtDones
  rw [fits_c, fits_c, fits_o, fits_o, fits_d, fits_d, e1, e2, e3, e4, e5, e6, e7, e8, e9, e10, e11, e12, l1, l2, l3]
theorem decoded {x : RecV} {w w' : World} {e : Ending} (h : DecRP (recBytes x) w e w') (hr : rightRec x = true) (hw : x.Wf) (hl : (recBytes x).length ≤ 16384) :
    ∃ z : RecV, e = .returned (.tuple #[recVal z, .int .i64 0]) ∧ z.At w' ∧ x.q = z.q ∧ Below w.heap.size w w' := by
  have h0 := rec_read hr hw []
  rw [List.append_nil] at h0
  obtain ⟨h1, y⟩ := h
  have hq : (rrec (recBytes x) 0).1 = x.q := by rw [h0]
  rw [hq] at h1
  rcases h1 with ⟨z, he, h2, _, _, _, _, h3⟩ | ⟨_, u, hu, h2, h3⟩
  · exact ⟨z, he, h2, h3.symm, y⟩
  · exact absurd ⟨(right_q h2).trans hr, by rw [recBytes_q, recBytes_q, h2], hl⟩ h3
end Go.Proofs.YtbgofajldkblmaaGreat
/- rec: what the law's small says. Own lemmas, no statement. -/
set_option linter.unusedSimpArgs false
set_option linter.unusedVariables false
namespace Go.Proofs.YtbgofajldkblmaaGreat
open Go.ChangeShapes Go.WideShapes Go.ChangeAt Go.RowKit

def SmallP (om dn : Nat) (w : World) (e : Ending) (w' : World) : Prop := (∃ b : Bool, e = .returned (.bool b) ∧ (b = true → om ≤ 20 ∧ dn ≤ 20)) ∧ Below w.heap.size w w'
theorem smallP_of {om dn : Nat} {w w' : World} {e : Ending} {b : Bool} (he : e = .returned (.bool b)) (hb : b = true → om ≤ 20 ∧ dn ≤ 20) (y : Below w.heap.size w w') : SmallP om dn w e w' := ⟨⟨b, he, hb⟩, y⟩
set_option maxRecDepth 100000 in
set_option maxHeartbeats 8000000 in
theorem small12_raw (kind : Int) (num : Int) (node : Int) (key : ByteArray) (was : Bool) (old : ByteArray) (prev : Int) (na : Option Addr) (nn : Nat) (nc : Nat) (ra : Option Addr) (rn : Nat) (rc : Nat) (ga : Option Addr) (gn : Nat) (gc : Nat) (oa : Option Addr) (om : Nat) (oc : Nat) (da : Option Addr) (dn : Nat) (dc : Nat) (gs : List ChgV) (os : List OpenV) (ds : List DoneV) (w : World) (h1 : RowsN w 9 ChgV.c (.slice ga gn gc) gs) (h2 : RowsN w 7 OpenV.c (.slice oa om oc) os) (h3 : RowsN w 3 DoneV.c (.slice da dn dc) ds) : Calls Tryz.prog 7 #[.agg #[.int .i64 kind, .int .u64 num, .int .i64 node, .string key, .bool was, .string old, .int .u64 prev, .slice na nn nc, .slice ra rn rc, .slice ga gn gc, .slice oa om oc, .slice da dn dc]] w (SmallP om dn w) := by
  have HG : Hid (RowsN w 9 ChgV.c (.slice ga gn gc) gs) := h1
  have HO : Hid (RowsN w 7 OpenV.c (.slice oa om oc) os) := h2
  have HE : Hid (RowsN w 3 DoneV.c (.slice da dn dc) ds) := h3
  have m1 : gn ≤ 9223372036854775807 := by have h := h1.len.2; unfold maxLen at h; omega
  have m2 : om ≤ 9223372036854775807 := by have h := h2.len.2; unfold maxLen at h; omega
  have m3 : dn ≤ 9223372036854775807 := by have h := h3.len.2; unfold maxLen at h; omega
  clear h1 h2 h3
  have HB : Hid (Blk (w.alloc (.cells #[.int .i64 kind, .int .u64 num, .int .i64 node, .string key, .bool was, .string old, .int .u64 prev, .slice na nn nc, .slice ra rn rc, .slice ga gn gc, .slice oa om oc, .slice da dn dc] 31)) w.heap.size #[.int .i64 kind, .int .u64 num, .int .i64 node, .string key, .bool was, .string old, .int .u64 prev, .slice na nn nc, .slice ra rn rc, .slice ga gn gc, .slice oa om oc, .slice da dn dc] 31) := Blk.new _ _ _
  have HY : Hid (Below w.heap.size w (w.alloc (.cells #[.int .i64 kind, .int .u64 num, .int .i64 node, .string key, .bool was, .string old, .int .u64 prev, .slice na nn nc, .slice ra rn rc, .slice ga gn gc, .slice oa om oc, .slice da dn dc] 31))) := (Below.refl _ _).alloc (Nat.le_refl _) _
  go_enter Tryz.func7, Tryz.ntmps7
  go_upto_region 1 with fail
  generalize w.alloc (.cells #[.int .i64 kind, .int .u64 num, .int .i64 node, .string key, .bool was, .string old, .int .u64 prev, .slice na nn nc, .slice ra rn rc, .slice ga gn gc, .slice oa om oc, .slice da dn dc] 31) = w0 at *
  have z7 : w0.cell? ⟨w.heap.size, 7, none⟩ = some (.slice na nn nc) := HB.out.cell 7
  have z8 : w0.cell? ⟨w.heap.size, 8, none⟩ = some (.slice ra rn rc) := HB.out.cell 8
  have z9 : w0.cell? ⟨w.heap.size, 9, none⟩ = some (.slice ga gn gc) := HB.out.cell 9
  have z10 : w0.cell? ⟨w.heap.size, 10, none⟩ = some (.slice oa om oc) := HB.out.cell 10
  have z11 : w0.cell? ⟨w.heap.size, 11, none⟩ = some (.slice da dn dc) := HB.out.cell 11
  by_cases g0 : 70 < nn
  case pos =>
    go_wp2
    go_ret
    exact smallP_of rfl (by first | (intro h; exact absurd h (by decide)) | (intro _; omega)) HY.out
  by_cases g1 : 35 < gn
  case pos =>
    go_wp2
    go_ret
    exact smallP_of rfl (by first | (intro h; exact absurd h (by decide)) | (intro _; omega)) HY.out
  by_cases g2 : 20 < om
  case pos =>
    go_wp2
    go_ret
    exact smallP_of rfl (by first | (intro h; exact absurd h (by decide)) | (intro _; omega)) HY.out
  by_cases g3 : 20 < dn
  case pos =>
    go_wp2
    go_ret
    exact smallP_of rfl (by first | (intro h; exact absurd h (by decide)) | (intro _; omega)) HY.out
  by_cases g4 : 120 < rn
  case pos =>
    go_wp2
    go_ret
    exact smallP_of rfl (by first | (intro h; exact absurd h (by decide)) | (intro _; omega)) HY.out
  go_wp2
  go_loopw [40] (fun i wr => ∃ k : Nat, i = .int .i64 (k : Int) ∧ k ≤ om ∧ Below w.heap.size w wr ∧ Blk wr w.heap.size #[.int .i64 kind, .int .u64 num, .int .i64 node, .string key, .bool was, .string old, .int .u64 prev, .slice na nn nc, .slice ra rn rc, .slice ga gn gc, .slice oa om oc, .slice da dn dc] 31) (fun i _ => om - (intOf i).toNat)
  case atStart => exact ⟨0, rfl, Nat.zero_le _, HY.out, HB.out⟩
  case round =>
    obtain ⟨k, rfl, hk, y, hb⟩ := hrel
    clear HY HB
    have HY : Hid (Below w.heap.size w wr) := y
    have HB : Hid (Blk wr w.heap.size #[.int .i64 kind, .int .u64 num, .int .i64 node, .string key, .bool was, .string old, .int .u64 prev, .slice na nn nc, .slice ra rn rc, .slice ga gn gc, .slice oa om oc, .slice da dn dc] 31) := hb
    clear y hb
    by_cases hlt : k < om
    · have hkl : k < os.length := by rw [← HO.out.len.1]; exact hlt
      have hi2 : (k : Int) < (om : Int) := by omega
      obtain ⟨ad, had⟩ := RowsN.adr HO.out (by omega)
      subst had
      have HH : Hid (RowsN wr 7 _ (.slice (some ad) _ _) os) := HO.out.below HY.out
      have e0 : wr.cell? (ad.add (k * 7)) = some _ := HH.out.at0 hkl rfl
      have e1 : wr.cell? ⟨(ad.add (k * 7)).block, (ad.add (k * 7)).off + 1, none⟩ = some _ := HH.out.atS hkl 0 rfl
      have e2 : wr.cell? ⟨(ad.add (k * 7)).block, (ad.add (k * 7)).off + 2, none⟩ = some _ := HH.out.atS hkl 1 rfl
      have e3 : wr.cell? ⟨(ad.add (k * 7)).block, (ad.add (k * 7)).off + 3, none⟩ = some _ := HH.out.atS hkl 2 rfl
      have e4 : wr.cell? ⟨(ad.add (k * 7)).block, (ad.add (k * 7)).off + 4, none⟩ = some _ := HH.out.atS hkl 3 rfl
      have e5 : wr.cell? ⟨(ad.add (k * 7)).block, (ad.add (k * 7)).off + 5, none⟩ = some _ := HH.out.atS hkl 4 rfl
      have e6 : wr.cell? ⟨(ad.add (k * 7)).block, (ad.add (k * 7)).off + 6, none⟩ = some _ := HH.out.atS hkl 5 rfl
      generalize os[k] = q at *
      have HY1 : Hid (Below w.heap.size w (wr.alloc (.cells #[.int .u64 q.num, .int .i64 q.node, .int .u64 q.last, .int .u64 q.first, .int .i64 q.count, .bool q.ready, .slice q.ra q.rn q.rc] 45))) := HY.out.alloc HY.out.size _
      have HB1 : Hid (Blk (wr.alloc (.cells #[.int .u64 q.num, .int .i64 q.node, .int .u64 q.last, .int .u64 q.first, .int .i64 q.count, .bool q.ready, .slice q.ra q.rn q.rc] 45)) w.heap.size #[.int .i64 kind, .int .u64 num, .int .i64 node, .string key, .bool was, .string old, .int .u64 prev, .slice na nn nc, .slice ra rn rc, .slice ga gn gc, .slice (some ad) om oc, .slice da dn dc] 31) := HB.out.alloc _
      have HQ1 : Hid (Blk (wr.alloc (.cells #[.int .u64 q.num, .int .i64 q.node, .int .u64 q.last, .int .u64 q.first, .int .i64 q.count, .bool q.ready, .slice q.ra q.rn q.rc] 45)) wr.heap.size #[.int .u64 q.num, .int .i64 q.node, .int .u64 q.last, .int .u64 q.first, .int .i64 q.count, .bool q.ready, .slice q.ra q.rn q.rc] 45) := Blk.new _ _ _
      go_upto_region 6 with fail
      clear e0 e1 e2 e3 e4 e5 e6 HH HY HB
      generalize (wr.alloc (.cells #[.int .u64 q.num, .int .i64 q.node, .int .u64 q.last, .int .u64 q.first, .int .i64 q.count, .bool q.ready, .slice q.ra q.rn q.rc] 45)) = w2 at *
      obtain ⟨b, hbb⟩ : ∃ b, wr.heap.size = b := ⟨_, rfl⟩
      rw [hbb] at HQ1 ⊢
      clear hbb
      have u6 : w2.cell? ⟨b, 6, none⟩ = some (.slice q.ra q.rn q.rc) := HQ1.out.cell 6
      by_cases f0 : 120 < q.rn
      case pos =>
        go_wp2
        go_ret
        exact smallP_of rfl (by first | (intro h; exact absurd h (by decide)) | (intro _; omega)) HY1.out
      go_wp2
      go_roundw
      case rel => exact ⟨k + 1, by go_num, by omega, HY1.out, HB1.out⟩
      case measure => simp [intOf]; omega
    · clear hk
      rename World => wq1
      have z8 : wq1.cell? ⟨w.heap.size, 9, none⟩ = some (.slice ga gn gc) := HB.out.cell 9
      have z9 : wq1.cell? ⟨w.heap.size, 10, none⟩ = some (.slice oa om oc) := HB.out.cell 10
      have z10 : wq1.cell? ⟨w.heap.size, 11, none⟩ = some (.slice da dn dc) := HB.out.cell 11
      go_wp2
      clear hlt
      go_loopw [52] (fun i wr => ∃ k : Nat, i = .int .i64 (k : Int) ∧ k ≤ gn ∧ Below w.heap.size w wr ∧ Blk wr w.heap.size #[.int .i64 kind, .int .u64 num, .int .i64 node, .string key, .bool was, .string old, .int .u64 prev, .slice na nn nc, .slice ra rn rc, .slice ga gn gc, .slice oa om oc, .slice da dn dc] 31) (fun i _ => gn - (intOf i).toNat)
      case atStart => exact ⟨0, rfl, Nat.zero_le _, HY.out, HB.out⟩
      case round =>
        obtain ⟨k, rfl, hk, y, hb⟩ := hrel
        clear HY HB
        have HY : Hid (Below w.heap.size w wr) := y
        have HB : Hid (Blk wr w.heap.size #[.int .i64 kind, .int .u64 num, .int .i64 node, .string key, .bool was, .string old, .int .u64 prev, .slice na nn nc, .slice ra rn rc, .slice ga gn gc, .slice oa om oc, .slice da dn dc] 31) := hb
        clear y hb
        by_cases hlt : k < gn
        · have hkl : k < gs.length := by rw [← HG.out.len.1]; exact hlt
          have hi2 : (k : Int) < (gn : Int) := by omega
          obtain ⟨ad, had⟩ := RowsN.adr HG.out (by omega)
          subst had
          have HH : Hid (RowsN wr 9 _ (.slice (some ad) _ _) gs) := HG.out.below HY.out
          have e0 : wr.cell? (ad.add (k * 9)) = some _ := HH.out.at0 hkl rfl
          have e1 : wr.cell? ⟨(ad.add (k * 9)).block, (ad.add (k * 9)).off + 1, none⟩ = some _ := HH.out.atS hkl 0 rfl
          have e2 : wr.cell? ⟨(ad.add (k * 9)).block, (ad.add (k * 9)).off + 2, none⟩ = some _ := HH.out.atS hkl 1 rfl
          have e3 : wr.cell? ⟨(ad.add (k * 9)).block, (ad.add (k * 9)).off + 3, none⟩ = some _ := HH.out.atS hkl 2 rfl
          have e4 : wr.cell? ⟨(ad.add (k * 9)).block, (ad.add (k * 9)).off + 4, none⟩ = some _ := HH.out.atS hkl 3 rfl
          have e5 : wr.cell? ⟨(ad.add (k * 9)).block, (ad.add (k * 9)).off + 5, none⟩ = some _ := HH.out.atS hkl 4 rfl
          have e6 : wr.cell? ⟨(ad.add (k * 9)).block, (ad.add (k * 9)).off + 6, none⟩ = some _ := HH.out.atS hkl 5 rfl
          have e7 : wr.cell? ⟨(ad.add (k * 9)).block, (ad.add (k * 9)).off + 7, none⟩ = some _ := HH.out.atS hkl 6 rfl
          have e8 : wr.cell? ⟨(ad.add (k * 9)).block, (ad.add (k * 9)).off + 8, none⟩ = some _ := HH.out.atS hkl 7 rfl
          generalize gs[k] = q at *
          have HY1 : Hid (Below w.heap.size w (wr.alloc (.cells #[.int .i64 q.n, .int .i64 q.p.kind, .slice q.ka q.kn q.kc, .slice q.va q.vn q.vc, .slice q.da q.dn q.dc, .int .i64 q.p.root, .int .i64 q.p.next, .int .i64 q.p.size, .int .i64 q.p.idle] 49))) := HY.out.alloc HY.out.size _
          have HB1 : Hid (Blk (wr.alloc (.cells #[.int .i64 q.n, .int .i64 q.p.kind, .slice q.ka q.kn q.kc, .slice q.va q.vn q.vc, .slice q.da q.dn q.dc, .int .i64 q.p.root, .int .i64 q.p.next, .int .i64 q.p.size, .int .i64 q.p.idle] 49)) w.heap.size #[.int .i64 kind, .int .u64 num, .int .i64 node, .string key, .bool was, .string old, .int .u64 prev, .slice na nn nc, .slice ra rn rc, .slice (some ad) gn gc, .slice oa om oc, .slice da dn dc] 31) := HB.out.alloc _
          have HQ1 : Hid (Blk (wr.alloc (.cells #[.int .i64 q.n, .int .i64 q.p.kind, .slice q.ka q.kn q.kc, .slice q.va q.vn q.vc, .slice q.da q.dn q.dc, .int .i64 q.p.root, .int .i64 q.p.next, .int .i64 q.p.size, .int .i64 q.p.idle] 49)) wr.heap.size #[.int .i64 q.n, .int .i64 q.p.kind, .slice q.ka q.kn q.kc, .slice q.va q.vn q.vc, .slice q.da q.dn q.dc, .int .i64 q.p.root, .int .i64 q.p.next, .int .i64 q.p.size, .int .i64 q.p.idle] 49) := Blk.new _ _ _
          go_upto_region 12 with fail
          clear e0 e1 e2 e3 e4 e5 e6 e7 e8 HH HY HB
          generalize (wr.alloc (.cells #[.int .i64 q.n, .int .i64 q.p.kind, .slice q.ka q.kn q.kc, .slice q.va q.vn q.vc, .slice q.da q.dn q.dc, .int .i64 q.p.root, .int .i64 q.p.next, .int .i64 q.p.size, .int .i64 q.p.idle] 49)) = w2 at *
          obtain ⟨b, hbb⟩ : ∃ b, wr.heap.size = b := ⟨_, rfl⟩
          rw [hbb] at HQ1 ⊢
          clear hbb
          have u2 : w2.cell? ⟨b, 2, none⟩ = some (.slice q.ka q.kn q.kc) := HQ1.out.cell 2
          have u3 : w2.cell? ⟨b, 3, none⟩ = some (.slice q.va q.vn q.vc) := HQ1.out.cell 3
          have u4 : w2.cell? ⟨b, 4, none⟩ = some (.slice q.da q.dn q.dc) := HQ1.out.cell 4
          by_cases f0 : 10 < q.kn
          case pos =>
            go_wp2
            go_ret
            exact smallP_of rfl (by first | (intro h; exact absurd h (by decide)) | (intro _; omega)) HY1.out
          by_cases f1 : 10 < q.vn
          case pos =>
            go_wp2
            go_ret
            exact smallP_of rfl (by first | (intro h; exact absurd h (by decide)) | (intro _; omega)) HY1.out
          by_cases f2 : 10 < q.dn
          case pos =>
            go_wp2
            go_ret
            exact smallP_of rfl (by first | (intro h; exact absurd h (by decide)) | (intro _; omega)) HY1.out
          go_wp2
          go_roundw
          case rel => exact ⟨k + 1, by go_num, by omega, HY1.out, HB1.out⟩
          case measure => simp [intOf]; omega
        · clear hk
          rename World => wq2
          have z8 : wq2.cell? ⟨w.heap.size, 9, none⟩ = some (.slice ga gn gc) := HB.out.cell 9
          have z9 : wq2.cell? ⟨w.heap.size, 10, none⟩ = some (.slice oa om oc) := HB.out.cell 10
          have z10 : wq2.cell? ⟨w.heap.size, 11, none⟩ = some (.slice da dn dc) := HB.out.cell 11
          go_wp2
          clear hlt
          go_loopw [79] (fun i wr => ∃ k : Nat, i = .int .i64 (k : Int) ∧ k ≤ dn ∧ Below w.heap.size w wr ∧ Blk wr w.heap.size #[.int .i64 kind, .int .u64 num, .int .i64 node, .string key, .bool was, .string old, .int .u64 prev, .slice na nn nc, .slice ra rn rc, .slice ga gn gc, .slice oa om oc, .slice da dn dc] 31) (fun i _ => dn - (intOf i).toNat)
          case atStart => exact ⟨0, rfl, Nat.zero_le _, HY.out, HB.out⟩
          case round =>
            obtain ⟨k, rfl, hk, y, hb⟩ := hrel
            clear HY HB
            have HY : Hid (Below w.heap.size w wr) := y
            have HB : Hid (Blk wr w.heap.size #[.int .i64 kind, .int .u64 num, .int .i64 node, .string key, .bool was, .string old, .int .u64 prev, .slice na nn nc, .slice ra rn rc, .slice ga gn gc, .slice oa om oc, .slice da dn dc] 31) := hb
            clear y hb
            by_cases hlt : k < dn
            · have hkl : k < ds.length := by rw [← HE.out.len.1]; exact hlt
              have hi2 : (k : Int) < (dn : Int) := by omega
              obtain ⟨ad, had⟩ := RowsN.adr HE.out (by omega)
              subst had
              have HH : Hid (RowsN wr 3 _ (.slice (some ad) _ _) ds) := HE.out.below HY.out
              have e0 : wr.cell? (ad.add (k * 3)) = some _ := HH.out.at0 hkl rfl
              have e1 : wr.cell? ⟨(ad.add (k * 3)).block, (ad.add (k * 3)).off + 1, none⟩ = some _ := HH.out.atS hkl 0 rfl
              have e2 : wr.cell? ⟨(ad.add (k * 3)).block, (ad.add (k * 3)).off + 2, none⟩ = some _ := HH.out.atS hkl 1 rfl
              generalize ds[k] = q at *
              have HY1 : Hid (Below w.heap.size w (wr.alloc (.cells #[.int .u64 q.num, .int .i64 q.node, .slice q.na q.nn q.nc] 51))) := HY.out.alloc HY.out.size _
              have HB1 : Hid (Blk (wr.alloc (.cells #[.int .u64 q.num, .int .i64 q.node, .slice q.na q.nn q.nc] 51)) w.heap.size #[.int .i64 kind, .int .u64 num, .int .i64 node, .string key, .bool was, .string old, .int .u64 prev, .slice na nn nc, .slice ra rn rc, .slice ga gn gc, .slice oa om oc, .slice (some ad) dn dc] 31) := HB.out.alloc _
              have HQ1 : Hid (Blk (wr.alloc (.cells #[.int .u64 q.num, .int .i64 q.node, .slice q.na q.nn q.nc] 51)) wr.heap.size #[.int .u64 q.num, .int .i64 q.node, .slice q.na q.nn q.nc] 51) := Blk.new _ _ _
              go_upto_region 18 with fail
              clear e0 e1 e2 HH HY HB
              generalize (wr.alloc (.cells #[.int .u64 q.num, .int .i64 q.node, .slice q.na q.nn q.nc] 51)) = w2 at *
              obtain ⟨b, hbb⟩ : ∃ b, wr.heap.size = b := ⟨_, rfl⟩
              rw [hbb] at HQ1 ⊢
              clear hbb
              have u2 : w2.cell? ⟨b, 2, none⟩ = some (.slice q.na q.nn q.nc) := HQ1.out.cell 2
              by_cases f0 : 70 < q.nn
              case pos =>
                go_wp2
                go_ret
                exact smallP_of rfl (by first | (intro h; exact absurd h (by decide)) | (intro _; omega)) HY1.out
              go_wp2
              go_roundw
              case rel => exact ⟨k + 1, by go_num, by omega, HY1.out, HB1.out⟩
              case measure => simp [intOf]; omega
            · go_wp2
              go_ret
              exact smallP_of rfl (by first | (intro h; exact absurd h (by decide)) | (intro _; omega)) HY.out
theorem small12_any (x : RecV) (w : World) (h : x.At w) : Calls Tryz.prog 7 #[.agg #[.int .i64 x.kind, .int .u64 x.num, .int .i64 x.node, .string x.key, .bool x.was, .string x.old, .int .u64 x.prev, .slice x.na x.nn x.nc, .slice x.ra x.rn x.rc, .slice x.ga x.gn x.gc, .slice x.oa x.om x.oc, .slice x.da x.dn x.dc]] w (SmallP x.om x.dn w) :=
  small12_raw _ _ _ _ _ _ _ _ _ _ _ _ _ _ _ _ _ _ _ _ _ _ x.gs x.os x.ds w h.pages h.opens h.dones
end Go.Proofs.YtbgofajldkblmaaGreat
/- RecCodes: the walk of the law's Go text. -/
set_option linter.unusedSimpArgs false
set_option linter.unusedVariables false
namespace Go.Proofs.YtbgofajldkblmaaGreat
open Go.ChangeShapes Go.WideShapes Go.ChangeAt Go.RowKit

set_option maxRecDepth 100000 in
set_option maxHeartbeats 8000000 in
theorem walk_RecCodes (x : RecV) (w : World) (hx : x.At w) (wx : x.Wf) : Calls Tryz.prog 3 #[.agg #[.int .i64 x.kind, .int .u64 x.num, .int .i64 x.node, .string x.key, .bool x.was, .string x.old, .int .u64 x.prev, .slice x.na x.nn x.nc, .slice x.ra x.rn x.rc, .slice x.ga x.gn x.gc, .slice x.oa x.om x.oc, .slice x.da x.dn x.dc]] w fun e w' => e = .returned (.bool true) ∧ Below w.heap.size w w' := by
  have HX : Hid (x.At w ∧ x.Wf) := ⟨hx, wx⟩
  clear hx wx
  have HB : Hid (Blk (w.alloc (.cells #[.int .i64 x.kind, .int .u64 x.num, .int .i64 x.node, .string x.key, .bool x.was, .string x.old, .int .u64 x.prev, .slice x.na x.nn x.nc, .slice x.ra x.rn x.rc, .slice x.ga x.gn x.gc, .slice x.oa x.om x.oc, .slice x.da x.dn x.dc] 31)) w.heap.size #[.int .i64 x.kind, .int .u64 x.num, .int .i64 x.node, .string x.key, .bool x.was, .string x.old, .int .u64 x.prev, .slice x.na x.nn x.nc, .slice x.ra x.rn x.rc, .slice x.ga x.gn x.gc, .slice x.oa x.om x.oc, .slice x.da x.dn x.dc] 31) := Blk.new _ _ _
  have HY : Hid (Below w.heap.size w (w.alloc (.cells #[.int .i64 x.kind, .int .u64 x.num, .int .i64 x.node, .string x.key, .bool x.was, .string x.old, .int .u64 x.prev, .slice x.na x.nn x.nc, .slice x.ra x.rn x.rc, .slice x.ga x.gn x.gc, .slice x.oa x.om x.oc, .slice x.da x.dn x.dc] 31))) := (Below.refl _ _).alloc (Nat.le_refl _) _
  go_enter Tryz.func3, Tryz.ntmps3
  go_upto_region 1 with fail
  generalize w.alloc (.cells #[.int .i64 x.kind, .int .u64 x.num, .int .i64 x.node, .string x.key, .bool x.was, .string x.old, .int .u64 x.prev, .slice x.na x.nn x.nc, .slice x.ra x.rn x.rc, .slice x.ga x.gn x.gc, .slice x.oa x.om x.oc, .slice x.da x.dn x.dc] 31) = w0 at *
  go_wp2_with fail
  refine (head11_any _).mono ?_
  rintro e w1 ⟨rfl, y⟩
  have HB' : Hid (Blk w1 w.heap.size #[.int .i64 x.kind, .int .u64 x.num, .int .i64 x.node, .string x.key, .bool x.was, .string x.old, .int .u64 x.prev, .slice x.na x.nn x.nc, .slice x.ra x.rn x.rc, .slice x.ga x.gn x.gc, .slice x.oa x.om x.oc, .slice x.da x.dn x.dc] 31) := Blk.of HB.out (y.block _ HB.out.lt)
  have HY' : Hid (Below w.heap.size w w1) := ext_trans HY.out y
  clear HB HY y
  have HB := HB'
  have HY := HY'
  clear HB' HY'
  have z0 : w1.cell? ⟨w.heap.size, 0, none⟩ = some (.int .i64 x.kind) := HB.out.cell 0
  have z1 : w1.cell? ⟨w.heap.size, 1, none⟩ = some (.int .u64 x.num) := HB.out.cell 1
  have z2 : w1.cell? ⟨w.heap.size, 2, none⟩ = some (.int .i64 x.node) := HB.out.cell 2
  have z3 : w1.cell? ⟨w.heap.size, 3, none⟩ = some (.string x.key) := HB.out.cell 3
  have z4 : w1.cell? ⟨w.heap.size, 4, none⟩ = some (.bool x.was) := HB.out.cell 4
  have z5 : w1.cell? ⟨w.heap.size, 5, none⟩ = some (.string x.old) := HB.out.cell 5
  have z6 : w1.cell? ⟨w.heap.size, 6, none⟩ = some (.int .u64 x.prev) := HB.out.cell 6
  have z7 : w1.cell? ⟨w.heap.size, 7, none⟩ = some (.slice x.na x.nn x.nc) := HB.out.cell 7
  have z8 : w1.cell? ⟨w.heap.size, 8, none⟩ = some (.slice x.ra x.rn x.rc) := HB.out.cell 8
  have z9 : w1.cell? ⟨w.heap.size, 9, none⟩ = some (.slice x.ga x.gn x.gc) := HB.out.cell 9
  have z10 : w1.cell? ⟨w.heap.size, 10, none⟩ = some (.slice x.oa x.om x.oc) := HB.out.cell 10
  have z11 : w1.cell? ⟨w.heap.size, 11, none⟩ = some (.slice x.da x.dn x.dc) := HB.out.cell 11
  go_wp2_with fail
  refine (small12_any x w1 (HX.out.1.below HY.out)).mono ?_
  rintro e w2 ⟨⟨b, rfl, hb⟩, y⟩
  have HB' : Hid (Blk w2 w.heap.size #[.int .i64 x.kind, .int .u64 x.num, .int .i64 x.node, .string x.key, .bool x.was, .string x.old, .int .u64 x.prev, .slice x.na x.nn x.nc, .slice x.ra x.rn x.rc, .slice x.ga x.gn x.gc, .slice x.oa x.om x.oc, .slice x.da x.dn x.dc] 31) := Blk.of HB.out (y.block _ HB.out.lt)
  have HY' : Hid (Below w.heap.size w w2) := ext_trans HY.out y
  clear HB HY y z0 z1 z2 z3 z4 z5 z6 z7 z8 z9 z10 z11
  have HB := HB'
  have HY := HY'
  clear HB' HY'
  have z0 : w2.cell? ⟨w.heap.size, 0, none⟩ = some (.int .i64 x.kind) := HB.out.cell 0
  have z1 : w2.cell? ⟨w.heap.size, 1, none⟩ = some (.int .u64 x.num) := HB.out.cell 1
  have z2 : w2.cell? ⟨w.heap.size, 2, none⟩ = some (.int .i64 x.node) := HB.out.cell 2
  have z3 : w2.cell? ⟨w.heap.size, 3, none⟩ = some (.string x.key) := HB.out.cell 3
  have z4 : w2.cell? ⟨w.heap.size, 4, none⟩ = some (.bool x.was) := HB.out.cell 4
  have z5 : w2.cell? ⟨w.heap.size, 5, none⟩ = some (.string x.old) := HB.out.cell 5
  have z6 : w2.cell? ⟨w.heap.size, 6, none⟩ = some (.int .u64 x.prev) := HB.out.cell 6
  have z7 : w2.cell? ⟨w.heap.size, 7, none⟩ = some (.slice x.na x.nn x.nc) := HB.out.cell 7
  have z8 : w2.cell? ⟨w.heap.size, 8, none⟩ = some (.slice x.ra x.rn x.rc) := HB.out.cell 8
  have z9 : w2.cell? ⟨w.heap.size, 9, none⟩ = some (.slice x.ga x.gn x.gc) := HB.out.cell 9
  have z10 : w2.cell? ⟨w.heap.size, 10, none⟩ = some (.slice x.oa x.om x.oc) := HB.out.cell 10
  have z11 : w2.cell? ⟨w.heap.size, 11, none⟩ = some (.slice x.da x.dn x.dc) := HB.out.cell 11
  cases b with
  | false =>
    go_wp2
    go_ret
    exact ⟨rfl, HY.out⟩
  | true =>
    have HS : Hid (x.om ≤ 20 ∧ x.dn ≤ 20) := hb rfl
    clear hb
    go_wp2_with fail
    refine (encQ_any x w2 (HX.out.1.below HY.out) HX.out.2).mono ?_
    rintro e w3 ⟨he, y⟩
    have HB' : Hid (Blk w3 w.heap.size #[.int .i64 x.kind, .int .u64 x.num, .int .i64 x.node, .string x.key, .bool x.was, .string x.old, .int .u64 x.prev, .slice x.na x.nn x.nc, .slice x.ra x.rn x.rc, .slice x.ga x.gn x.gc, .slice x.oa x.om x.oc, .slice x.da x.dn x.dc] 31) := Blk.of HB.out (y.block _ HB.out.lt)
    have HY' : Hid (Below w.heap.size w w3) := ext_trans HY.out y
    clear HB HY y z0 z1 z2 z3 z4 z5 z6 z7 z8 z9 z10 z11
    have HB := HB'
    have HY := HY'
    clear HB' HY'
    have z0 : w3.cell? ⟨w.heap.size, 0, none⟩ = some (.int .i64 x.kind) := HB.out.cell 0
    have z1 : w3.cell? ⟨w.heap.size, 1, none⟩ = some (.int .u64 x.num) := HB.out.cell 1
    have z2 : w3.cell? ⟨w.heap.size, 2, none⟩ = some (.int .i64 x.node) := HB.out.cell 2
    have z3 : w3.cell? ⟨w.heap.size, 3, none⟩ = some (.string x.key) := HB.out.cell 3
    have z4 : w3.cell? ⟨w.heap.size, 4, none⟩ = some (.bool x.was) := HB.out.cell 4
    have z5 : w3.cell? ⟨w.heap.size, 5, none⟩ = some (.string x.old) := HB.out.cell 5
    have z6 : w3.cell? ⟨w.heap.size, 6, none⟩ = some (.int .u64 x.prev) := HB.out.cell 6
    have z7 : w3.cell? ⟨w.heap.size, 7, none⟩ = some (.slice x.na x.nn x.nc) := HB.out.cell 7
    have z8 : w3.cell? ⟨w.heap.size, 8, none⟩ = some (.slice x.ra x.rn x.rc) := HB.out.cell 8
    have z9 : w3.cell? ⟨w.heap.size, 9, none⟩ = some (.slice x.ga x.gn x.gc) := HB.out.cell 9
    have z10 : w3.cell? ⟨w.heap.size, 10, none⟩ = some (.slice x.oa x.om x.oc) := HB.out.cell 10
    have z11 : w3.cell? ⟨w.heap.size, 11, none⟩ = some (.slice x.da x.dn x.dc) := HB.out.cell 11
    rcases he with ⟨hr, hlen, a1, c1, rfl, hs⟩ | ⟨er, rfl, ⟨hr, hlen, her⟩ | ⟨hr, her⟩⟩
    · have HR : Hid (rightRec x = true) := hr
      have HE : Hid (Src w3 (.slice a1 (recBytes x).length c1) (recBytes x)) := hs
      have HL : Hid ((recBytes x).length ≤ 16384) := hlen
      clear hr hs
      clear hlen
      obtain ⟨n, hn⟩ : ∃ y, y = (recBytes x).length := ⟨_, rfl⟩
      have HN : Hid (n = (recBytes x).length) := hn
      rw [← hn] at HE ⊢
      have hl2 : n ≤ 16384 := by have := HL.out; omega
      clear hn
      go_upto_region 6 with fail
      clear z0 z1 z2 z3 z4 z5 z6 z7 z8 z9 z10 z11
      refine wp_region_ext (by kernel_rfl) ?_
      haveI nA := cls_ext w3.drew
      have HB' : Hid (Blk w3.drew w.heap.size #[.int .i64 x.kind, .int .u64 x.num, .int .i64 x.node, .string x.key, .bool x.was, .string x.old, .int .u64 x.prev, .slice x.na x.nn x.nc, .slice x.ra x.rn x.rc, .slice x.ga x.gn x.gc, .slice x.oa x.om x.oc, .slice x.da x.dn x.dc] 31) := Blk.of HB.out ((Below.drew (Below.refl _ w3)).block _ HB.out.lt)
      have HY' : Hid (Below w.heap.size w w3.drew) := Below.drew HY.out
      have HB := HB'
      have HY := HY'
      clear HB' HY'
      have HW : Hid (Below w3.heap.size w3 w3.drew) := Below.drew (Below.refl _ w3)
      have z0 := cellX (W0 := w3.drew) (show w3.drew.cell? ⟨w.heap.size, 0, none⟩ = some (.int .i64 x.kind) from HB.out.cell 0)
      have z1 := cellX (W0 := w3.drew) (show w3.drew.cell? ⟨w.heap.size, 1, none⟩ = some (.int .u64 x.num) from HB.out.cell 1)
      have z2 := cellX (W0 := w3.drew) (show w3.drew.cell? ⟨w.heap.size, 2, none⟩ = some (.int .i64 x.node) from HB.out.cell 2)
      have z3 := cellX (W0 := w3.drew) (show w3.drew.cell? ⟨w.heap.size, 3, none⟩ = some (.string x.key) from HB.out.cell 3)
      have z4 := cellX (W0 := w3.drew) (show w3.drew.cell? ⟨w.heap.size, 4, none⟩ = some (.bool x.was) from HB.out.cell 4)
      have z5 := cellX (W0 := w3.drew) (show w3.drew.cell? ⟨w.heap.size, 5, none⟩ = some (.string x.old) from HB.out.cell 5)
      have z6 := cellX (W0 := w3.drew) (show w3.drew.cell? ⟨w.heap.size, 6, none⟩ = some (.int .u64 x.prev) from HB.out.cell 6)
      have z7 := cellX (W0 := w3.drew) (show w3.drew.cell? ⟨w.heap.size, 7, none⟩ = some (.slice x.na x.nn x.nc) from HB.out.cell 7)
      have z8 := cellX (W0 := w3.drew) (show w3.drew.cell? ⟨w.heap.size, 8, none⟩ = some (.slice x.ra x.rn x.rc) from HB.out.cell 8)
      have z9 := cellX (W0 := w3.drew) (show w3.drew.cell? ⟨w.heap.size, 9, none⟩ = some (.slice x.ga x.gn x.gc) from HB.out.cell 9)
      have z10 := cellX (W0 := w3.drew) (show w3.drew.cell? ⟨w.heap.size, 10, none⟩ = some (.slice x.oa x.om x.oc) from HB.out.cell 10)
      have z11 := cellX (W0 := w3.drew) (show w3.drew.cell? ⟨w.heap.size, 11, none⟩ = some (.slice x.da x.dn x.dc) from HB.out.cell 11)
      refine wpAnyH_seg (by kernel_rfl) (fun _ _ _ h => h) [0, 2] 3 _ _ _ (Ext.refl _) (by kernel_rfl) ?_
      simp only [opsAt, List.getElem?_toArray, List.getElem?_cons_zero, List.getElem?_cons_succ, List.cons_append, List.nil_append]
      repeat (go_big_quiet_step (fail))
      refine wpQuiet_nil ?_
      clear nA z0 z1 z2 z3 z4 z5 z6 z7 z8 z9 z10 z11
      refine wpAnyH_callE (i := 1) (fuel := 2) 19 rfl (by kernel_rfl) rfl (Ext.refl _) (by kernel_rfl) (f := 9) (args := #[.agg #[.int .i64 x.kind, .int .u64 x.num, .int .i64 x.node, .string x.key, .bool x.was, .string x.old, .int .u64 x.prev, .slice x.na x.nn x.nc, .slice x.ra x.rn x.rc, .slice x.ga x.gn x.gc, .slice x.oa x.om x.oc, .slice x.da x.dn x.dc]]) (by kernel_rfl) (recRight_any x w3.drew (HX.out.1.below HY.out)) ?_
      rintro e w4 ⟨rfl, y⟩
      refine ⟨_, rfl, y, ?_⟩
      have HW' : Hid (Below w3.heap.size w3 w4) := ext_trans HW.out y
      clear HW
      have HW := HW'
      clear HW'
      have HB' : Hid (Blk w4 w.heap.size #[.int .i64 x.kind, .int .u64 x.num, .int .i64 x.node, .string x.key, .bool x.was, .string x.old, .int .u64 x.prev, .slice x.na x.nn x.nc, .slice x.ra x.rn x.rc, .slice x.ga x.gn x.gc, .slice x.oa x.om x.oc, .slice x.da x.dn x.dc] 31) := Blk.of HB.out (y.block _ HB.out.lt)
      have HY' : Hid (Below w.heap.size w w4) := ext_trans HY.out y
      clear HB HY y
      have HB := HB'
      have HY := HY'
      clear HB' HY'
      simp only [Act.put, List.setIfInBounds_toArray, List.set_cons_succ, List.set_cons_zero]
      refine wpAnyH_callE (i := 3) (fuel := 1) 21 rfl (by kernel_rfl) rfl (Ext.refl _) (by kernel_rfl) (f := 10) (args := #[.agg #[.int .i64 x.kind, .int .u64 x.num, .int .i64 x.node, .string x.key, .bool x.was, .string x.old, .int .u64 x.prev, .slice x.na x.nn x.nc, .slice x.ra x.rn x.rc, .slice x.ga x.gn x.gc, .slice x.oa x.om x.oc, .slice x.da x.dn x.dc]]) (by kernel_rfl) (lawRight12_any x w4 (HX.out.1.below HY.out) HS.out.1 HS.out.2) ?_
      rintro e w5 ⟨rfl, y⟩
      refine ⟨_, rfl, y, ?_⟩
      have HW' : Hid (Below w3.heap.size w3 w5) := ext_trans HW.out y
      clear HW
      have HW := HW'
      clear HW'
      have HB' : Hid (Blk w5 w.heap.size #[.int .i64 x.kind, .int .u64 x.num, .int .i64 x.node, .string x.key, .bool x.was, .string x.old, .int .u64 x.prev, .slice x.na x.nn x.nc, .slice x.ra x.rn x.rc, .slice x.ga x.gn x.gc, .slice x.oa x.om x.oc, .slice x.da x.dn x.dc] 31) := Blk.of HB.out (y.block _ HB.out.lt)
      have HY' : Hid (Below w.heap.size w w5) := ext_trans HY.out y
      clear HB HY y
      have HB := HB'
      have HY := HY'
      clear HB' HY'
      simp only [Act.put, List.setIfInBounds_toArray, List.set_cons_succ, List.set_cons_zero]
      rw [HR.out]
      haveI nB := cls_ext w5
      refine wpAnyH_seg (by kernel_rfl) (fun _ _ _ h => h) [4] 0 _ _ _ (Ext.refl _) (by kernel_rfl) ?_
      simp only [opsAt, List.getElem?_toArray, List.getElem?_cons_zero, List.getElem?_cons_succ, List.cons_append, List.nil_append]
      repeat (go_big_quiet_step (fail))
      refine wpQuiet_nil ?_
      clear nB
      refine wpAnyH_done (by kernel_rfl) (NoPanic.normal ?_) 0
      have z0 : w5.cell? ⟨w.heap.size, 0, none⟩ = some (.int .i64 x.kind) := HB.out.cell 0
      have z1 : w5.cell? ⟨w.heap.size, 1, none⟩ = some (.int .u64 x.num) := HB.out.cell 1
      have z2 : w5.cell? ⟨w.heap.size, 2, none⟩ = some (.int .i64 x.node) := HB.out.cell 2
      have z3 : w5.cell? ⟨w.heap.size, 3, none⟩ = some (.string x.key) := HB.out.cell 3
      have z4 : w5.cell? ⟨w.heap.size, 4, none⟩ = some (.bool x.was) := HB.out.cell 4
      have z5 : w5.cell? ⟨w.heap.size, 5, none⟩ = some (.string x.old) := HB.out.cell 5
      have z6 : w5.cell? ⟨w.heap.size, 6, none⟩ = some (.int .u64 x.prev) := HB.out.cell 6
      have z7 : w5.cell? ⟨w.heap.size, 7, none⟩ = some (.slice x.na x.nn x.nc) := HB.out.cell 7
      have z8 : w5.cell? ⟨w.heap.size, 8, none⟩ = some (.slice x.ra x.rn x.rc) := HB.out.cell 8
      have z9 : w5.cell? ⟨w.heap.size, 9, none⟩ = some (.slice x.ga x.gn x.gc) := HB.out.cell 9
      have z10 : w5.cell? ⟨w.heap.size, 10, none⟩ = some (.slice x.oa x.om x.oc) := HB.out.cell 10
      have z11 : w5.cell? ⟨w.heap.size, 11, none⟩ = some (.slice x.da x.dn x.dc) := HB.out.cell 11
      go_wp2_with fail
      refine (lawRight12_any x w5 (HX.out.1.below HY.out) HS.out.1 HS.out.2).mono ?_
      rintro e w6 ⟨rfl, y⟩
      rw [HR.out]
      have HW' : Hid (Below w3.heap.size w3 w6) := ext_trans HW.out y
      clear HW
      have HW := HW'
      clear HW'
      have HB' : Hid (Blk w6 w.heap.size #[.int .i64 x.kind, .int .u64 x.num, .int .i64 x.node, .string x.key, .bool x.was, .string x.old, .int .u64 x.prev, .slice x.na x.nn x.nc, .slice x.ra x.rn x.rc, .slice x.ga x.gn x.gc, .slice x.oa x.om x.oc, .slice x.da x.dn x.dc] 31) := Blk.of HB.out (y.block _ HB.out.lt)
      have HY' : Hid (Below w.heap.size w w6) := ext_trans HY.out y
      clear HB HY y z0 z1 z2 z3 z4 z5 z6 z7 z8 z9 z10 z11
      have HB := HB'
      have HY := HY'
      clear HB' HY'
      have z0 : w6.cell? ⟨w.heap.size, 0, none⟩ = some (.int .i64 x.kind) := HB.out.cell 0
      have z1 : w6.cell? ⟨w.heap.size, 1, none⟩ = some (.int .u64 x.num) := HB.out.cell 1
      have z2 : w6.cell? ⟨w.heap.size, 2, none⟩ = some (.int .i64 x.node) := HB.out.cell 2
      have z3 : w6.cell? ⟨w.heap.size, 3, none⟩ = some (.string x.key) := HB.out.cell 3
      have z4 : w6.cell? ⟨w.heap.size, 4, none⟩ = some (.bool x.was) := HB.out.cell 4
      have z5 : w6.cell? ⟨w.heap.size, 5, none⟩ = some (.string x.old) := HB.out.cell 5
      have z6 : w6.cell? ⟨w.heap.size, 6, none⟩ = some (.int .u64 x.prev) := HB.out.cell 6
      have z7 : w6.cell? ⟨w.heap.size, 7, none⟩ = some (.slice x.na x.nn x.nc) := HB.out.cell 7
      have z8 : w6.cell? ⟨w.heap.size, 8, none⟩ = some (.slice x.ra x.rn x.rc) := HB.out.cell 8
      have z9 : w6.cell? ⟨w.heap.size, 9, none⟩ = some (.slice x.ga x.gn x.gc) := HB.out.cell 9
      have z10 : w6.cell? ⟨w.heap.size, 10, none⟩ = some (.slice x.oa x.om x.oc) := HB.out.cell 10
      have z11 : w6.cell? ⟨w.heap.size, 11, none⟩ = some (.slice x.da x.dn x.dc) := HB.out.cell 11
      go_wp2_with fail
      refine (lawBytes11_any x w6 (HX.out.1.below HY.out) HX.out.2 HR.out).mono ?_
      rintro e w7 ⟨v7, rfl, hs7, y⟩
      obtain ⟨a7, c7, hv7⟩ := hs7.form
      subst hv7
      have HW' : Hid (Below w3.heap.size w3 w7) := ext_trans HW.out y
      clear HW
      have HW := HW'
      clear HW'
      have HB' : Hid (Blk w7 w.heap.size #[.int .i64 x.kind, .int .u64 x.num, .int .i64 x.node, .string x.key, .bool x.was, .string x.old, .int .u64 x.prev, .slice x.na x.nn x.nc, .slice x.ra x.rn x.rc, .slice x.ga x.gn x.gc, .slice x.oa x.om x.oc, .slice x.da x.dn x.dc] 31) := Blk.of HB.out (y.block _ HB.out.lt)
      have HY' : Hid (Below w.heap.size w w7) := ext_trans HY.out y
      clear HB HY y z0 z1 z2 z3 z4 z5 z6 z7 z8 z9 z10 z11
      have HB := HB'
      have HY := HY'
      clear HB' HY'
      have z0 : w7.cell? ⟨w.heap.size, 0, none⟩ = some (.int .i64 x.kind) := HB.out.cell 0
      have z1 : w7.cell? ⟨w.heap.size, 1, none⟩ = some (.int .u64 x.num) := HB.out.cell 1
      have z2 : w7.cell? ⟨w.heap.size, 2, none⟩ = some (.int .i64 x.node) := HB.out.cell 2
      have z3 : w7.cell? ⟨w.heap.size, 3, none⟩ = some (.string x.key) := HB.out.cell 3
      have z4 : w7.cell? ⟨w.heap.size, 4, none⟩ = some (.bool x.was) := HB.out.cell 4
      have z5 : w7.cell? ⟨w.heap.size, 5, none⟩ = some (.string x.old) := HB.out.cell 5
      have z6 : w7.cell? ⟨w.heap.size, 6, none⟩ = some (.int .u64 x.prev) := HB.out.cell 6
      have z7 : w7.cell? ⟨w.heap.size, 7, none⟩ = some (.slice x.na x.nn x.nc) := HB.out.cell 7
      have z8 : w7.cell? ⟨w.heap.size, 8, none⟩ = some (.slice x.ra x.rn x.rc) := HB.out.cell 8
      have z9 : w7.cell? ⟨w.heap.size, 9, none⟩ = some (.slice x.ga x.gn x.gc) := HB.out.cell 9
      have z10 : w7.cell? ⟨w.heap.size, 10, none⟩ = some (.slice x.oa x.om x.oc) := HB.out.cell 10
      have z11 : w7.cell? ⟨w.heap.size, 11, none⟩ = some (.slice x.da x.dn x.dc) := HB.out.cell 11
      have HS7 : Hid (Src w7 (.slice a7 n c7) (recBytes x)) := by have h := hs7; rw [← HN.out] at h; exact h
      clear hs7
      rw [← HN.out]
      go_wp2_with fail
      refine (recDecode_any _ (recBytes x) w7 (HE.out.below HW.out) (by have := HL.out; omega)).mono ?_
      rintro e w8 hd
      obtain ⟨z, rfl, hz, hq, y⟩ := decoded hd HR.out HX.out.2 HL.out
      clear hd
      have HZ : Hid (z.At w8) := hz
      have HQ : Hid (x.q = z.q) := hq
      have HS8 : Hid (Src w8 (.slice a7 n c7) (recBytes x)) := HS7.out.below y
      clear hz hq HS7
      have HW' : Hid (Below w3.heap.size w3 w8) := ext_trans HW.out y
      clear HW
      have HW := HW'
      clear HW'
      have HB' : Hid (Blk w8 w.heap.size #[.int .i64 x.kind, .int .u64 x.num, .int .i64 x.node, .string x.key, .bool x.was, .string x.old, .int .u64 x.prev, .slice x.na x.nn x.nc, .slice x.ra x.rn x.rc, .slice x.ga x.gn x.gc, .slice x.oa x.om x.oc, .slice x.da x.dn x.dc] 31) := Blk.of HB.out (y.block _ HB.out.lt)
      have HY' : Hid (Below w.heap.size w w8) := ext_trans HY.out y
      clear HB HY y z0 z1 z2 z3 z4 z5 z6 z7 z8 z9 z10 z11
      have HB := HB'
      have HY := HY'
      clear HB' HY'
      have HE8 : Hid (Src w8 (.slice a1 n c1) (recBytes x)) := HE.out.below HW.out
      clear HE
      unfold recVal
      have HB3 : Hid (Blk (w8.alloc (.cells #[.int .i64 z.kind, .int .u64 z.num, .int .i64 z.node, .string z.key, .bool z.was, .string z.old, .int .u64 z.prev, .slice z.na z.nn z.nc, .slice z.ra z.rn z.rc, .slice z.ga z.gn z.gc, .slice z.oa z.om z.oc, .slice z.da z.dn z.dc] 31)) w8.heap.size #[.int .i64 z.kind, .int .u64 z.num, .int .i64 z.node, .string z.key, .bool z.was, .string z.old, .int .u64 z.prev, .slice z.na z.nn z.nc, .slice z.ra z.rn z.rc, .slice z.ga z.gn z.gc, .slice z.oa z.om z.oc, .slice z.da z.dn z.dc] 31) := Blk.new _ _ _
      have HY3 : Hid (Below w.heap.size w (w8.alloc (.cells #[.int .i64 z.kind, .int .u64 z.num, .int .i64 z.node, .string z.key, .bool z.was, .string z.old, .int .u64 z.prev, .slice z.na z.nn z.nc, .slice z.ra z.rn z.rc, .slice z.ga z.gn z.gc, .slice z.oa z.om z.oc, .slice z.da z.dn z.dc] 31))) := HY.out.alloc HY.out.size _
      have HZ3 : Hid (z.At (w8.alloc (.cells #[.int .i64 z.kind, .int .u64 z.num, .int .i64 z.node, .string z.key, .bool z.was, .string z.old, .int .u64 z.prev, .slice z.na z.nn z.nc, .slice z.ra z.rn z.rc, .slice z.ga z.gn z.gc, .slice z.oa z.om z.oc, .slice z.da z.dn z.dc] 31))) := HZ.out.below (below_allocR _)
      have HX3 : Hid (x.At (w8.alloc (.cells #[.int .i64 z.kind, .int .u64 z.num, .int .i64 z.node, .string z.key, .bool z.was, .string z.old, .int .u64 z.prev, .slice z.na z.nn z.nc, .slice z.ra z.rn z.rc, .slice z.ga z.gn z.gc, .slice z.oa z.om z.oc, .slice z.da z.dn z.dc] 31))) := HX.out.1.below HY3.out
      have HB9 : Hid (Blk (w8.alloc (.cells #[.int .i64 z.kind, .int .u64 z.num, .int .i64 z.node, .string z.key, .bool z.was, .string z.old, .int .u64 z.prev, .slice z.na z.nn z.nc, .slice z.ra z.rn z.rc, .slice z.ga z.gn z.gc, .slice z.oa z.om z.oc, .slice z.da z.dn z.dc] 31)) w.heap.size #[.int .i64 x.kind, .int .u64 x.num, .int .i64 x.node, .string x.key, .bool x.was, .string x.old, .int .u64 x.prev, .slice x.na x.nn x.nc, .slice x.ra x.rn x.rc, .slice x.ga x.gn x.gc, .slice x.oa x.om x.oc, .slice x.da x.dn x.dc] 31) := HB.out.alloc _
      have HS9 : Hid (Src (w8.alloc (.cells #[.int .i64 z.kind, .int .u64 z.num, .int .i64 z.node, .string z.key, .bool z.was, .string z.old, .int .u64 z.prev, .slice z.na z.nn z.nc, .slice z.ra z.rn z.rc, .slice z.ga z.gn z.gc, .slice z.oa z.om z.oc, .slice z.da z.dn z.dc] 31)) (.slice a7 n c7) (recBytes x)) := HS8.out.below (below_allocR _)
      have HE9 : Hid (Src (w8.alloc (.cells #[.int .i64 z.kind, .int .u64 z.num, .int .i64 z.node, .string z.key, .bool z.was, .string z.old, .int .u64 z.prev, .slice z.na z.nn z.nc, .slice z.ra z.rn z.rc, .slice z.ga z.gn z.gc, .slice z.oa z.om z.oc, .slice z.da z.dn z.dc] 31)) (.slice a1 n c1) (recBytes x)) := HE8.out.below (below_allocR _)
      have u1 := HE9.out.str
      have u2 := HS9.out.str
      have z0 : (w8.alloc (.cells #[.int .i64 z.kind, .int .u64 z.num, .int .i64 z.node, .string z.key, .bool z.was, .string z.old, .int .u64 z.prev, .slice z.na z.nn z.nc, .slice z.ra z.rn z.rc, .slice z.ga z.gn z.gc, .slice z.oa z.om z.oc, .slice z.da z.dn z.dc] 31)).cell? ⟨w.heap.size, 0, none⟩ = some (.int .i64 x.kind) := HB9.out.cell 0
      have z1 : (w8.alloc (.cells #[.int .i64 z.kind, .int .u64 z.num, .int .i64 z.node, .string z.key, .bool z.was, .string z.old, .int .u64 z.prev, .slice z.na z.nn z.nc, .slice z.ra z.rn z.rc, .slice z.ga z.gn z.gc, .slice z.oa z.om z.oc, .slice z.da z.dn z.dc] 31)).cell? ⟨w.heap.size, 1, none⟩ = some (.int .u64 x.num) := HB9.out.cell 1
      have z2 : (w8.alloc (.cells #[.int .i64 z.kind, .int .u64 z.num, .int .i64 z.node, .string z.key, .bool z.was, .string z.old, .int .u64 z.prev, .slice z.na z.nn z.nc, .slice z.ra z.rn z.rc, .slice z.ga z.gn z.gc, .slice z.oa z.om z.oc, .slice z.da z.dn z.dc] 31)).cell? ⟨w.heap.size, 2, none⟩ = some (.int .i64 x.node) := HB9.out.cell 2
      have z3 : (w8.alloc (.cells #[.int .i64 z.kind, .int .u64 z.num, .int .i64 z.node, .string z.key, .bool z.was, .string z.old, .int .u64 z.prev, .slice z.na z.nn z.nc, .slice z.ra z.rn z.rc, .slice z.ga z.gn z.gc, .slice z.oa z.om z.oc, .slice z.da z.dn z.dc] 31)).cell? ⟨w.heap.size, 3, none⟩ = some (.string x.key) := HB9.out.cell 3
      have z4 : (w8.alloc (.cells #[.int .i64 z.kind, .int .u64 z.num, .int .i64 z.node, .string z.key, .bool z.was, .string z.old, .int .u64 z.prev, .slice z.na z.nn z.nc, .slice z.ra z.rn z.rc, .slice z.ga z.gn z.gc, .slice z.oa z.om z.oc, .slice z.da z.dn z.dc] 31)).cell? ⟨w.heap.size, 4, none⟩ = some (.bool x.was) := HB9.out.cell 4
      have z5 : (w8.alloc (.cells #[.int .i64 z.kind, .int .u64 z.num, .int .i64 z.node, .string z.key, .bool z.was, .string z.old, .int .u64 z.prev, .slice z.na z.nn z.nc, .slice z.ra z.rn z.rc, .slice z.ga z.gn z.gc, .slice z.oa z.om z.oc, .slice z.da z.dn z.dc] 31)).cell? ⟨w.heap.size, 5, none⟩ = some (.string x.old) := HB9.out.cell 5
      have z6 : (w8.alloc (.cells #[.int .i64 z.kind, .int .u64 z.num, .int .i64 z.node, .string z.key, .bool z.was, .string z.old, .int .u64 z.prev, .slice z.na z.nn z.nc, .slice z.ra z.rn z.rc, .slice z.ga z.gn z.gc, .slice z.oa z.om z.oc, .slice z.da z.dn z.dc] 31)).cell? ⟨w.heap.size, 6, none⟩ = some (.int .u64 x.prev) := HB9.out.cell 6
      have z7 : (w8.alloc (.cells #[.int .i64 z.kind, .int .u64 z.num, .int .i64 z.node, .string z.key, .bool z.was, .string z.old, .int .u64 z.prev, .slice z.na z.nn z.nc, .slice z.ra z.rn z.rc, .slice z.ga z.gn z.gc, .slice z.oa z.om z.oc, .slice z.da z.dn z.dc] 31)).cell? ⟨w.heap.size, 7, none⟩ = some (.slice x.na x.nn x.nc) := HB9.out.cell 7
      have z8 : (w8.alloc (.cells #[.int .i64 z.kind, .int .u64 z.num, .int .i64 z.node, .string z.key, .bool z.was, .string z.old, .int .u64 z.prev, .slice z.na z.nn z.nc, .slice z.ra z.rn z.rc, .slice z.ga z.gn z.gc, .slice z.oa z.om z.oc, .slice z.da z.dn z.dc] 31)).cell? ⟨w.heap.size, 8, none⟩ = some (.slice x.ra x.rn x.rc) := HB9.out.cell 8
      have z9 : (w8.alloc (.cells #[.int .i64 z.kind, .int .u64 z.num, .int .i64 z.node, .string z.key, .bool z.was, .string z.old, .int .u64 z.prev, .slice z.na z.nn z.nc, .slice z.ra z.rn z.rc, .slice z.ga z.gn z.gc, .slice z.oa z.om z.oc, .slice z.da z.dn z.dc] 31)).cell? ⟨w.heap.size, 9, none⟩ = some (.slice x.ga x.gn x.gc) := HB9.out.cell 9
      have z10 : (w8.alloc (.cells #[.int .i64 z.kind, .int .u64 z.num, .int .i64 z.node, .string z.key, .bool z.was, .string z.old, .int .u64 z.prev, .slice z.na z.nn z.nc, .slice z.ra z.rn z.rc, .slice z.ga z.gn z.gc, .slice z.oa z.om z.oc, .slice z.da z.dn z.dc] 31)).cell? ⟨w.heap.size, 10, none⟩ = some (.slice x.oa x.om x.oc) := HB9.out.cell 10
      have z11 : (w8.alloc (.cells #[.int .i64 z.kind, .int .u64 z.num, .int .i64 z.node, .string z.key, .bool z.was, .string z.old, .int .u64 z.prev, .slice z.na z.nn z.nc, .slice z.ra z.rn z.rc, .slice z.ga z.gn z.gc, .slice z.oa z.om z.oc, .slice z.da z.dn z.dc] 31)).cell? ⟨w.heap.size, 11, none⟩ = some (.slice x.da x.dn x.dc) := HB9.out.cell 11
      have s0 : (w8.alloc (.cells #[.int .i64 z.kind, .int .u64 z.num, .int .i64 z.node, .string z.key, .bool z.was, .string z.old, .int .u64 z.prev, .slice z.na z.nn z.nc, .slice z.ra z.rn z.rc, .slice z.ga z.gn z.gc, .slice z.oa z.om z.oc, .slice z.da z.dn z.dc] 31)).cell? ⟨w8.heap.size, 0, none⟩ = some (.int .i64 z.kind) := HB3.out.cell 0
      have s1 : (w8.alloc (.cells #[.int .i64 z.kind, .int .u64 z.num, .int .i64 z.node, .string z.key, .bool z.was, .string z.old, .int .u64 z.prev, .slice z.na z.nn z.nc, .slice z.ra z.rn z.rc, .slice z.ga z.gn z.gc, .slice z.oa z.om z.oc, .slice z.da z.dn z.dc] 31)).cell? ⟨w8.heap.size, 1, none⟩ = some (.int .u64 z.num) := HB3.out.cell 1
      have s2 : (w8.alloc (.cells #[.int .i64 z.kind, .int .u64 z.num, .int .i64 z.node, .string z.key, .bool z.was, .string z.old, .int .u64 z.prev, .slice z.na z.nn z.nc, .slice z.ra z.rn z.rc, .slice z.ga z.gn z.gc, .slice z.oa z.om z.oc, .slice z.da z.dn z.dc] 31)).cell? ⟨w8.heap.size, 2, none⟩ = some (.int .i64 z.node) := HB3.out.cell 2
      have s3 : (w8.alloc (.cells #[.int .i64 z.kind, .int .u64 z.num, .int .i64 z.node, .string z.key, .bool z.was, .string z.old, .int .u64 z.prev, .slice z.na z.nn z.nc, .slice z.ra z.rn z.rc, .slice z.ga z.gn z.gc, .slice z.oa z.om z.oc, .slice z.da z.dn z.dc] 31)).cell? ⟨w8.heap.size, 3, none⟩ = some (.string z.key) := HB3.out.cell 3
      have s4 : (w8.alloc (.cells #[.int .i64 z.kind, .int .u64 z.num, .int .i64 z.node, .string z.key, .bool z.was, .string z.old, .int .u64 z.prev, .slice z.na z.nn z.nc, .slice z.ra z.rn z.rc, .slice z.ga z.gn z.gc, .slice z.oa z.om z.oc, .slice z.da z.dn z.dc] 31)).cell? ⟨w8.heap.size, 4, none⟩ = some (.bool z.was) := HB3.out.cell 4
      have s5 : (w8.alloc (.cells #[.int .i64 z.kind, .int .u64 z.num, .int .i64 z.node, .string z.key, .bool z.was, .string z.old, .int .u64 z.prev, .slice z.na z.nn z.nc, .slice z.ra z.rn z.rc, .slice z.ga z.gn z.gc, .slice z.oa z.om z.oc, .slice z.da z.dn z.dc] 31)).cell? ⟨w8.heap.size, 5, none⟩ = some (.string z.old) := HB3.out.cell 5
      have s6 : (w8.alloc (.cells #[.int .i64 z.kind, .int .u64 z.num, .int .i64 z.node, .string z.key, .bool z.was, .string z.old, .int .u64 z.prev, .slice z.na z.nn z.nc, .slice z.ra z.rn z.rc, .slice z.ga z.gn z.gc, .slice z.oa z.om z.oc, .slice z.da z.dn z.dc] 31)).cell? ⟨w8.heap.size, 6, none⟩ = some (.int .u64 z.prev) := HB3.out.cell 6
      have s7 : (w8.alloc (.cells #[.int .i64 z.kind, .int .u64 z.num, .int .i64 z.node, .string z.key, .bool z.was, .string z.old, .int .u64 z.prev, .slice z.na z.nn z.nc, .slice z.ra z.rn z.rc, .slice z.ga z.gn z.gc, .slice z.oa z.om z.oc, .slice z.da z.dn z.dc] 31)).cell? ⟨w8.heap.size, 7, none⟩ = some (.slice z.na z.nn z.nc) := HB3.out.cell 7
      have s8 : (w8.alloc (.cells #[.int .i64 z.kind, .int .u64 z.num, .int .i64 z.node, .string z.key, .bool z.was, .string z.old, .int .u64 z.prev, .slice z.na z.nn z.nc, .slice z.ra z.rn z.rc, .slice z.ga z.gn z.gc, .slice z.oa z.om z.oc, .slice z.da z.dn z.dc] 31)).cell? ⟨w8.heap.size, 8, none⟩ = some (.slice z.ra z.rn z.rc) := HB3.out.cell 8
      have s9 : (w8.alloc (.cells #[.int .i64 z.kind, .int .u64 z.num, .int .i64 z.node, .string z.key, .bool z.was, .string z.old, .int .u64 z.prev, .slice z.na z.nn z.nc, .slice z.ra z.rn z.rc, .slice z.ga z.gn z.gc, .slice z.oa z.om z.oc, .slice z.da z.dn z.dc] 31)).cell? ⟨w8.heap.size, 9, none⟩ = some (.slice z.ga z.gn z.gc) := HB3.out.cell 9
      have s10 : (w8.alloc (.cells #[.int .i64 z.kind, .int .u64 z.num, .int .i64 z.node, .string z.key, .bool z.was, .string z.old, .int .u64 z.prev, .slice z.na z.nn z.nc, .slice z.ra z.rn z.rc, .slice z.ga z.gn z.gc, .slice z.oa z.om z.oc, .slice z.da z.dn z.dc] 31)).cell? ⟨w8.heap.size, 10, none⟩ = some (.slice z.oa z.om z.oc) := HB3.out.cell 10
      have s11 : (w8.alloc (.cells #[.int .i64 z.kind, .int .u64 z.num, .int .i64 z.node, .string z.key, .bool z.was, .string z.old, .int .u64 z.prev, .slice z.na z.nn z.nc, .slice z.ra z.rn z.rc, .slice z.ga z.gn z.gc, .slice z.oa z.om z.oc, .slice z.da z.dn z.dc] 31)).cell? ⟨w8.heap.size, 11, none⟩ = some (.slice z.da z.dn z.dc) := HB3.out.cell 11
      go_wp2_with fail
      refine (same11_any x z _ HX3.out HZ3.out).mono ?_
      rintro e w9 ⟨b, rfl, hb, y⟩
      have hbt : b = true := hb.2 HQ.out
      subst hbt
      have HY9 : Hid (Below w.heap.size w w9) := ext_trans HY3.out y
      clear hb y
      go_wp2
      go_ret
      exact ⟨rfl, HY9.out⟩
    · have HR : Hid (rightRec x = true) := hr
      have HL : Hid (16384 < (recBytes x).length) := hlen
      clear hr
      subst her
      have hl2 : ¬ (recBytes x).length ≤ 16384 := by omega
      generalize hn : (recBytes x).length = n at *

      go_upto_region 6 with fail
      clear z0 z1 z2 z3 z4 z5 z6 z7 z8 z9 z10 z11
      refine wp_region_ext (by kernel_rfl) ?_
      haveI nA := cls_ext w3.drew
      have HB' : Hid (Blk w3.drew w.heap.size #[.int .i64 x.kind, .int .u64 x.num, .int .i64 x.node, .string x.key, .bool x.was, .string x.old, .int .u64 x.prev, .slice x.na x.nn x.nc, .slice x.ra x.rn x.rc, .slice x.ga x.gn x.gc, .slice x.oa x.om x.oc, .slice x.da x.dn x.dc] 31) := Blk.of HB.out ((Below.drew (Below.refl _ w3)).block _ HB.out.lt)
      have HY' : Hid (Below w.heap.size w w3.drew) := Below.drew HY.out
      have HB := HB'
      have HY := HY'
      clear HB' HY'
      have z0 := cellX (W0 := w3.drew) (show w3.drew.cell? ⟨w.heap.size, 0, none⟩ = some (.int .i64 x.kind) from HB.out.cell 0)
      have z1 := cellX (W0 := w3.drew) (show w3.drew.cell? ⟨w.heap.size, 1, none⟩ = some (.int .u64 x.num) from HB.out.cell 1)
      have z2 := cellX (W0 := w3.drew) (show w3.drew.cell? ⟨w.heap.size, 2, none⟩ = some (.int .i64 x.node) from HB.out.cell 2)
      have z3 := cellX (W0 := w3.drew) (show w3.drew.cell? ⟨w.heap.size, 3, none⟩ = some (.string x.key) from HB.out.cell 3)
      have z4 := cellX (W0 := w3.drew) (show w3.drew.cell? ⟨w.heap.size, 4, none⟩ = some (.bool x.was) from HB.out.cell 4)
      have z5 := cellX (W0 := w3.drew) (show w3.drew.cell? ⟨w.heap.size, 5, none⟩ = some (.string x.old) from HB.out.cell 5)
      have z6 := cellX (W0 := w3.drew) (show w3.drew.cell? ⟨w.heap.size, 6, none⟩ = some (.int .u64 x.prev) from HB.out.cell 6)
      have z7 := cellX (W0 := w3.drew) (show w3.drew.cell? ⟨w.heap.size, 7, none⟩ = some (.slice x.na x.nn x.nc) from HB.out.cell 7)
      have z8 := cellX (W0 := w3.drew) (show w3.drew.cell? ⟨w.heap.size, 8, none⟩ = some (.slice x.ra x.rn x.rc) from HB.out.cell 8)
      have z9 := cellX (W0 := w3.drew) (show w3.drew.cell? ⟨w.heap.size, 9, none⟩ = some (.slice x.ga x.gn x.gc) from HB.out.cell 9)
      have z10 := cellX (W0 := w3.drew) (show w3.drew.cell? ⟨w.heap.size, 10, none⟩ = some (.slice x.oa x.om x.oc) from HB.out.cell 10)
      have z11 := cellX (W0 := w3.drew) (show w3.drew.cell? ⟨w.heap.size, 11, none⟩ = some (.slice x.da x.dn x.dc) from HB.out.cell 11)
      refine wpAnyH_seg (by kernel_rfl) (fun _ _ _ h => h) [0, 2] 3 _ _ _ (Ext.refl _) (by kernel_rfl) ?_
      simp only [opsAt, List.getElem?_toArray, List.getElem?_cons_zero, List.getElem?_cons_succ, List.cons_append, List.nil_append]
      repeat (go_big_quiet_step (fail))
      refine wpQuiet_nil ?_
      clear nA z0 z1 z2 z3 z4 z5 z6 z7 z8 z9 z10 z11
      refine wpAnyH_callE (i := 1) (fuel := 2) 19 rfl (by kernel_rfl) rfl (Ext.refl _) (by kernel_rfl) (f := 9) (args := #[.agg #[.int .i64 x.kind, .int .u64 x.num, .int .i64 x.node, .string x.key, .bool x.was, .string x.old, .int .u64 x.prev, .slice x.na x.nn x.nc, .slice x.ra x.rn x.rc, .slice x.ga x.gn x.gc, .slice x.oa x.om x.oc, .slice x.da x.dn x.dc]]) (by kernel_rfl) (recRight_any x w3.drew (HX.out.1.below HY.out)) ?_
      rintro e w4 ⟨rfl, y⟩
      refine ⟨_, rfl, y, ?_⟩
      have HB' : Hid (Blk w4 w.heap.size #[.int .i64 x.kind, .int .u64 x.num, .int .i64 x.node, .string x.key, .bool x.was, .string x.old, .int .u64 x.prev, .slice x.na x.nn x.nc, .slice x.ra x.rn x.rc, .slice x.ga x.gn x.gc, .slice x.oa x.om x.oc, .slice x.da x.dn x.dc] 31) := Blk.of HB.out (y.block _ HB.out.lt)
      have HY' : Hid (Below w.heap.size w w4) := ext_trans HY.out y
      clear HB HY y
      have HB := HB'
      have HY := HY'
      clear HB' HY'
      simp only [Act.put, List.setIfInBounds_toArray, List.set_cons_succ, List.set_cons_zero]
      refine wpAnyH_callE (i := 3) (fuel := 1) 21 rfl (by kernel_rfl) rfl (Ext.refl _) (by kernel_rfl) (f := 10) (args := #[.agg #[.int .i64 x.kind, .int .u64 x.num, .int .i64 x.node, .string x.key, .bool x.was, .string x.old, .int .u64 x.prev, .slice x.na x.nn x.nc, .slice x.ra x.rn x.rc, .slice x.ga x.gn x.gc, .slice x.oa x.om x.oc, .slice x.da x.dn x.dc]]) (by kernel_rfl) (lawRight12_any x w4 (HX.out.1.below HY.out) HS.out.1 HS.out.2) ?_
      rintro e w5 ⟨rfl, y⟩
      refine ⟨_, rfl, y, ?_⟩
      have HB' : Hid (Blk w5 w.heap.size #[.int .i64 x.kind, .int .u64 x.num, .int .i64 x.node, .string x.key, .bool x.was, .string x.old, .int .u64 x.prev, .slice x.na x.nn x.nc, .slice x.ra x.rn x.rc, .slice x.ga x.gn x.gc, .slice x.oa x.om x.oc, .slice x.da x.dn x.dc] 31) := Blk.of HB.out (y.block _ HB.out.lt)
      have HY' : Hid (Below w.heap.size w w5) := ext_trans HY.out y
      clear HB HY y
      have HB := HB'
      have HY := HY'
      clear HB' HY'
      simp only [Act.put, List.setIfInBounds_toArray, List.set_cons_succ, List.set_cons_zero]
      rw [HR.out]
      haveI nB := cls_ext w5
      refine wpAnyH_seg (by kernel_rfl) (fun _ _ _ h => h) [4] 0 _ _ _ (Ext.refl _) (by kernel_rfl) ?_
      simp only [opsAt, List.getElem?_toArray, List.getElem?_cons_zero, List.getElem?_cons_succ, List.cons_append, List.nil_append]
      repeat (go_big_quiet_step (fail))
      refine wpQuiet_nil ?_
      clear nB
      refine wpAnyH_done (by kernel_rfl) (NoPanic.normal ?_) 0
      have z0 : w5.cell? ⟨w.heap.size, 0, none⟩ = some (.int .i64 x.kind) := HB.out.cell 0
      have z1 : w5.cell? ⟨w.heap.size, 1, none⟩ = some (.int .u64 x.num) := HB.out.cell 1
      have z2 : w5.cell? ⟨w.heap.size, 2, none⟩ = some (.int .i64 x.node) := HB.out.cell 2
      have z3 : w5.cell? ⟨w.heap.size, 3, none⟩ = some (.string x.key) := HB.out.cell 3
      have z4 : w5.cell? ⟨w.heap.size, 4, none⟩ = some (.bool x.was) := HB.out.cell 4
      have z5 : w5.cell? ⟨w.heap.size, 5, none⟩ = some (.string x.old) := HB.out.cell 5
      have z6 : w5.cell? ⟨w.heap.size, 6, none⟩ = some (.int .u64 x.prev) := HB.out.cell 6
      have z7 : w5.cell? ⟨w.heap.size, 7, none⟩ = some (.slice x.na x.nn x.nc) := HB.out.cell 7
      have z8 : w5.cell? ⟨w.heap.size, 8, none⟩ = some (.slice x.ra x.rn x.rc) := HB.out.cell 8
      have z9 : w5.cell? ⟨w.heap.size, 9, none⟩ = some (.slice x.ga x.gn x.gc) := HB.out.cell 9
      have z10 : w5.cell? ⟨w.heap.size, 10, none⟩ = some (.slice x.oa x.om x.oc) := HB.out.cell 10
      have z11 : w5.cell? ⟨w.heap.size, 11, none⟩ = some (.slice x.da x.dn x.dc) := HB.out.cell 11
      go_wp2_with fail
      refine (lawRight12_any x w5 (HX.out.1.below HY.out) HS.out.1 HS.out.2).mono ?_
      rintro e w6 ⟨rfl, y⟩
      rw [HR.out]
      have HB' : Hid (Blk w6 w.heap.size #[.int .i64 x.kind, .int .u64 x.num, .int .i64 x.node, .string x.key, .bool x.was, .string x.old, .int .u64 x.prev, .slice x.na x.nn x.nc, .slice x.ra x.rn x.rc, .slice x.ga x.gn x.gc, .slice x.oa x.om x.oc, .slice x.da x.dn x.dc] 31) := Blk.of HB.out (y.block _ HB.out.lt)
      have HY' : Hid (Below w.heap.size w w6) := ext_trans HY.out y
      clear HB HY y z0 z1 z2 z3 z4 z5 z6 z7 z8 z9 z10 z11
      have HB := HB'
      have HY := HY'
      clear HB' HY'
      have z0 : w6.cell? ⟨w.heap.size, 0, none⟩ = some (.int .i64 x.kind) := HB.out.cell 0
      have z1 : w6.cell? ⟨w.heap.size, 1, none⟩ = some (.int .u64 x.num) := HB.out.cell 1
      have z2 : w6.cell? ⟨w.heap.size, 2, none⟩ = some (.int .i64 x.node) := HB.out.cell 2
      have z3 : w6.cell? ⟨w.heap.size, 3, none⟩ = some (.string x.key) := HB.out.cell 3
      have z4 : w6.cell? ⟨w.heap.size, 4, none⟩ = some (.bool x.was) := HB.out.cell 4
      have z5 : w6.cell? ⟨w.heap.size, 5, none⟩ = some (.string x.old) := HB.out.cell 5
      have z6 : w6.cell? ⟨w.heap.size, 6, none⟩ = some (.int .u64 x.prev) := HB.out.cell 6
      have z7 : w6.cell? ⟨w.heap.size, 7, none⟩ = some (.slice x.na x.nn x.nc) := HB.out.cell 7
      have z8 : w6.cell? ⟨w.heap.size, 8, none⟩ = some (.slice x.ra x.rn x.rc) := HB.out.cell 8
      have z9 : w6.cell? ⟨w.heap.size, 9, none⟩ = some (.slice x.ga x.gn x.gc) := HB.out.cell 9
      have z10 : w6.cell? ⟨w.heap.size, 10, none⟩ = some (.slice x.oa x.om x.oc) := HB.out.cell 10
      have z11 : w6.cell? ⟨w.heap.size, 11, none⟩ = some (.slice x.da x.dn x.dc) := HB.out.cell 11
      go_wp2_with fail
      refine (lawBytes11_any x w6 (HX.out.1.below HY.out) HX.out.2 HR.out).mono ?_
      rintro e w7 ⟨v7, rfl, hs7, y⟩
      obtain ⟨a7, c7, hv7⟩ := hs7.form
      subst hv7
      have HB' : Hid (Blk w7 w.heap.size #[.int .i64 x.kind, .int .u64 x.num, .int .i64 x.node, .string x.key, .bool x.was, .string x.old, .int .u64 x.prev, .slice x.na x.nn x.nc, .slice x.ra x.rn x.rc, .slice x.ga x.gn x.gc, .slice x.oa x.om x.oc, .slice x.da x.dn x.dc] 31) := Blk.of HB.out (y.block _ HB.out.lt)
      have HY' : Hid (Below w.heap.size w w7) := ext_trans HY.out y
      clear HB HY y z0 z1 z2 z3 z4 z5 z6 z7 z8 z9 z10 z11
      have HB := HB'
      have HY := HY'
      clear HB' HY'
      have z0 : w7.cell? ⟨w.heap.size, 0, none⟩ = some (.int .i64 x.kind) := HB.out.cell 0
      have z1 : w7.cell? ⟨w.heap.size, 1, none⟩ = some (.int .u64 x.num) := HB.out.cell 1
      have z2 : w7.cell? ⟨w.heap.size, 2, none⟩ = some (.int .i64 x.node) := HB.out.cell 2
      have z3 : w7.cell? ⟨w.heap.size, 3, none⟩ = some (.string x.key) := HB.out.cell 3
      have z4 : w7.cell? ⟨w.heap.size, 4, none⟩ = some (.bool x.was) := HB.out.cell 4
      have z5 : w7.cell? ⟨w.heap.size, 5, none⟩ = some (.string x.old) := HB.out.cell 5
      have z6 : w7.cell? ⟨w.heap.size, 6, none⟩ = some (.int .u64 x.prev) := HB.out.cell 6
      have z7 : w7.cell? ⟨w.heap.size, 7, none⟩ = some (.slice x.na x.nn x.nc) := HB.out.cell 7
      have z8 : w7.cell? ⟨w.heap.size, 8, none⟩ = some (.slice x.ra x.rn x.rc) := HB.out.cell 8
      have z9 : w7.cell? ⟨w.heap.size, 9, none⟩ = some (.slice x.ga x.gn x.gc) := HB.out.cell 9
      have z10 : w7.cell? ⟨w.heap.size, 10, none⟩ = some (.slice x.oa x.om x.oc) := HB.out.cell 10
      have z11 : w7.cell? ⟨w.heap.size, 11, none⟩ = some (.slice x.da x.dn x.dc) := HB.out.cell 11
      rw [hn]
      go_wp2
      go_ret
      exact ⟨rfl, HY.out⟩
    · have HR : Hid (rightRec x = false) := hr
      clear hr
      subst her
      go_upto_region 6 with fail
      clear z0 z1 z2 z3 z4 z5 z6 z7 z8 z9 z10 z11
      refine wp_region_ext (by kernel_rfl) ?_
      haveI nA := cls_ext w3.drew
      have HB' : Hid (Blk w3.drew w.heap.size #[.int .i64 x.kind, .int .u64 x.num, .int .i64 x.node, .string x.key, .bool x.was, .string x.old, .int .u64 x.prev, .slice x.na x.nn x.nc, .slice x.ra x.rn x.rc, .slice x.ga x.gn x.gc, .slice x.oa x.om x.oc, .slice x.da x.dn x.dc] 31) := Blk.of HB.out ((Below.drew (Below.refl _ w3)).block _ HB.out.lt)
      have HY' : Hid (Below w.heap.size w w3.drew) := Below.drew HY.out
      have HB := HB'
      have HY := HY'
      clear HB' HY'
      have z0 := cellX (W0 := w3.drew) (show w3.drew.cell? ⟨w.heap.size, 0, none⟩ = some (.int .i64 x.kind) from HB.out.cell 0)
      have z1 := cellX (W0 := w3.drew) (show w3.drew.cell? ⟨w.heap.size, 1, none⟩ = some (.int .u64 x.num) from HB.out.cell 1)
      have z2 := cellX (W0 := w3.drew) (show w3.drew.cell? ⟨w.heap.size, 2, none⟩ = some (.int .i64 x.node) from HB.out.cell 2)
      have z3 := cellX (W0 := w3.drew) (show w3.drew.cell? ⟨w.heap.size, 3, none⟩ = some (.string x.key) from HB.out.cell 3)
      have z4 := cellX (W0 := w3.drew) (show w3.drew.cell? ⟨w.heap.size, 4, none⟩ = some (.bool x.was) from HB.out.cell 4)
      have z5 := cellX (W0 := w3.drew) (show w3.drew.cell? ⟨w.heap.size, 5, none⟩ = some (.string x.old) from HB.out.cell 5)
      have z6 := cellX (W0 := w3.drew) (show w3.drew.cell? ⟨w.heap.size, 6, none⟩ = some (.int .u64 x.prev) from HB.out.cell 6)
      have z7 := cellX (W0 := w3.drew) (show w3.drew.cell? ⟨w.heap.size, 7, none⟩ = some (.slice x.na x.nn x.nc) from HB.out.cell 7)
      have z8 := cellX (W0 := w3.drew) (show w3.drew.cell? ⟨w.heap.size, 8, none⟩ = some (.slice x.ra x.rn x.rc) from HB.out.cell 8)
      have z9 := cellX (W0 := w3.drew) (show w3.drew.cell? ⟨w.heap.size, 9, none⟩ = some (.slice x.ga x.gn x.gc) from HB.out.cell 9)
      have z10 := cellX (W0 := w3.drew) (show w3.drew.cell? ⟨w.heap.size, 10, none⟩ = some (.slice x.oa x.om x.oc) from HB.out.cell 10)
      have z11 := cellX (W0 := w3.drew) (show w3.drew.cell? ⟨w.heap.size, 11, none⟩ = some (.slice x.da x.dn x.dc) from HB.out.cell 11)
      refine wpAnyH_seg (by kernel_rfl) (fun _ _ _ h => h) [0, 2] 3 _ _ _ (Ext.refl _) (by kernel_rfl) ?_
      simp only [opsAt, List.getElem?_toArray, List.getElem?_cons_zero, List.getElem?_cons_succ, List.cons_append, List.nil_append]
      repeat (go_big_quiet_step (fail))
      refine wpQuiet_nil ?_
      clear nA z0 z1 z2 z3 z4 z5 z6 z7 z8 z9 z10 z11
      refine wpAnyH_callE (i := 1) (fuel := 2) 19 rfl (by kernel_rfl) rfl (Ext.refl _) (by kernel_rfl) (f := 9) (args := #[.agg #[.int .i64 x.kind, .int .u64 x.num, .int .i64 x.node, .string x.key, .bool x.was, .string x.old, .int .u64 x.prev, .slice x.na x.nn x.nc, .slice x.ra x.rn x.rc, .slice x.ga x.gn x.gc, .slice x.oa x.om x.oc, .slice x.da x.dn x.dc]]) (by kernel_rfl) (recRight_any x w3.drew (HX.out.1.below HY.out)) ?_
      rintro e w4 ⟨rfl, y⟩
      refine ⟨_, rfl, y, ?_⟩
      have HB' : Hid (Blk w4 w.heap.size #[.int .i64 x.kind, .int .u64 x.num, .int .i64 x.node, .string x.key, .bool x.was, .string x.old, .int .u64 x.prev, .slice x.na x.nn x.nc, .slice x.ra x.rn x.rc, .slice x.ga x.gn x.gc, .slice x.oa x.om x.oc, .slice x.da x.dn x.dc] 31) := Blk.of HB.out (y.block _ HB.out.lt)
      have HY' : Hid (Below w.heap.size w w4) := ext_trans HY.out y
      clear HB HY y
      have HB := HB'
      have HY := HY'
      clear HB' HY'
      simp only [Act.put, List.setIfInBounds_toArray, List.set_cons_succ, List.set_cons_zero]
      refine wpAnyH_callE (i := 3) (fuel := 1) 21 rfl (by kernel_rfl) rfl (Ext.refl _) (by kernel_rfl) (f := 10) (args := #[.agg #[.int .i64 x.kind, .int .u64 x.num, .int .i64 x.node, .string x.key, .bool x.was, .string x.old, .int .u64 x.prev, .slice x.na x.nn x.nc, .slice x.ra x.rn x.rc, .slice x.ga x.gn x.gc, .slice x.oa x.om x.oc, .slice x.da x.dn x.dc]]) (by kernel_rfl) (lawRight12_any x w4 (HX.out.1.below HY.out) HS.out.1 HS.out.2) ?_
      rintro e w5 ⟨rfl, y⟩
      refine ⟨_, rfl, y, ?_⟩
      have HB' : Hid (Blk w5 w.heap.size #[.int .i64 x.kind, .int .u64 x.num, .int .i64 x.node, .string x.key, .bool x.was, .string x.old, .int .u64 x.prev, .slice x.na x.nn x.nc, .slice x.ra x.rn x.rc, .slice x.ga x.gn x.gc, .slice x.oa x.om x.oc, .slice x.da x.dn x.dc] 31) := Blk.of HB.out (y.block _ HB.out.lt)
      have HY' : Hid (Below w.heap.size w w5) := ext_trans HY.out y
      clear HB HY y
      have HB := HB'
      have HY := HY'
      clear HB' HY'
      simp only [Act.put, List.setIfInBounds_toArray, List.set_cons_succ, List.set_cons_zero]
      rw [HR.out]
      haveI nB := cls_ext w5
      refine wpAnyH_seg (by kernel_rfl) (fun _ _ _ h => h) [4] 0 _ _ _ (Ext.refl _) (by kernel_rfl) ?_
      simp only [opsAt, List.getElem?_toArray, List.getElem?_cons_zero, List.getElem?_cons_succ, List.cons_append, List.nil_append]
      repeat (go_big_quiet_step (fail))
      refine wpQuiet_nil ?_
      clear nB
      refine wpAnyH_done (by kernel_rfl) (NoPanic.normal ?_) 0
      have z0 : w5.cell? ⟨w.heap.size, 0, none⟩ = some (.int .i64 x.kind) := HB.out.cell 0
      have z1 : w5.cell? ⟨w.heap.size, 1, none⟩ = some (.int .u64 x.num) := HB.out.cell 1
      have z2 : w5.cell? ⟨w.heap.size, 2, none⟩ = some (.int .i64 x.node) := HB.out.cell 2
      have z3 : w5.cell? ⟨w.heap.size, 3, none⟩ = some (.string x.key) := HB.out.cell 3
      have z4 : w5.cell? ⟨w.heap.size, 4, none⟩ = some (.bool x.was) := HB.out.cell 4
      have z5 : w5.cell? ⟨w.heap.size, 5, none⟩ = some (.string x.old) := HB.out.cell 5
      have z6 : w5.cell? ⟨w.heap.size, 6, none⟩ = some (.int .u64 x.prev) := HB.out.cell 6
      have z7 : w5.cell? ⟨w.heap.size, 7, none⟩ = some (.slice x.na x.nn x.nc) := HB.out.cell 7
      have z8 : w5.cell? ⟨w.heap.size, 8, none⟩ = some (.slice x.ra x.rn x.rc) := HB.out.cell 8
      have z9 : w5.cell? ⟨w.heap.size, 9, none⟩ = some (.slice x.ga x.gn x.gc) := HB.out.cell 9
      have z10 : w5.cell? ⟨w.heap.size, 10, none⟩ = some (.slice x.oa x.om x.oc) := HB.out.cell 10
      have z11 : w5.cell? ⟨w.heap.size, 11, none⟩ = some (.slice x.da x.dn x.dc) := HB.out.cell 11
      go_wp2_with fail
      refine (lawRight12_any x w5 (HX.out.1.below HY.out) HS.out.1 HS.out.2).mono ?_
      rintro e w6 ⟨rfl, y⟩
      rw [HR.out]
      have HB' : Hid (Blk w6 w.heap.size #[.int .i64 x.kind, .int .u64 x.num, .int .i64 x.node, .string x.key, .bool x.was, .string x.old, .int .u64 x.prev, .slice x.na x.nn x.nc, .slice x.ra x.rn x.rc, .slice x.ga x.gn x.gc, .slice x.oa x.om x.oc, .slice x.da x.dn x.dc] 31) := Blk.of HB.out (y.block _ HB.out.lt)
      have HY' : Hid (Below w.heap.size w w6) := ext_trans HY.out y
      clear HB HY y z0 z1 z2 z3 z4 z5 z6 z7 z8 z9 z10 z11
      have HB := HB'
      have HY := HY'
      clear HB' HY'
      have z0 : w6.cell? ⟨w.heap.size, 0, none⟩ = some (.int .i64 x.kind) := HB.out.cell 0
      have z1 : w6.cell? ⟨w.heap.size, 1, none⟩ = some (.int .u64 x.num) := HB.out.cell 1
      have z2 : w6.cell? ⟨w.heap.size, 2, none⟩ = some (.int .i64 x.node) := HB.out.cell 2
      have z3 : w6.cell? ⟨w.heap.size, 3, none⟩ = some (.string x.key) := HB.out.cell 3
      have z4 : w6.cell? ⟨w.heap.size, 4, none⟩ = some (.bool x.was) := HB.out.cell 4
      have z5 : w6.cell? ⟨w.heap.size, 5, none⟩ = some (.string x.old) := HB.out.cell 5
      have z6 : w6.cell? ⟨w.heap.size, 6, none⟩ = some (.int .u64 x.prev) := HB.out.cell 6
      have z7 : w6.cell? ⟨w.heap.size, 7, none⟩ = some (.slice x.na x.nn x.nc) := HB.out.cell 7
      have z8 : w6.cell? ⟨w.heap.size, 8, none⟩ = some (.slice x.ra x.rn x.rc) := HB.out.cell 8
      have z9 : w6.cell? ⟨w.heap.size, 9, none⟩ = some (.slice x.ga x.gn x.gc) := HB.out.cell 9
      have z10 : w6.cell? ⟨w.heap.size, 10, none⟩ = some (.slice x.oa x.om x.oc) := HB.out.cell 10
      have z11 : w6.cell? ⟨w.heap.size, 11, none⟩ = some (.slice x.da x.dn x.dc) := HB.out.cell 11
      go_wp2
      go_ret
      exact ⟨rfl, HY.out⟩
end Go.Proofs.YtbgofajldkblmaaGreat
/- RecCodes: for every input the law's Go text returns true and leaves what was there as it was. Conditions: none but the form's own. -/
namespace Go.Proofs.YtbgofajldkblmaaGreat.recCodesDone
open Go.ChangeShapes Go.WideShapes Go.ChangeAt Go.RowKit
open Go.ChangeMaps (open_string shut_string)

theorem own : ownKnob Tryz.prog.godebug = none := by kernel_rfl
theorem laidOut : laidOutB Tryz.prog = true := by kernel_rfl

set_option maxRecDepth 100000 in
theorem lifted (os : Os) (started : os.Started) (H : Type) (enc : TypeId × Value → H) :
    ReturnsInHanded {} Tryz.checked os 3 .any (Rows.recCodesSpec.pre6 enc Tryz.prog Tryz.f3 Rows.recCodesRow.domain false) (Rows.recCodesSpec.post enc Tryz.prog Tryz.f3 false true false false) := by
  refine returnsInHanded_of_change (C := Tryz.checked) own started (by kernel_rfl) Tryz.func3
    (ChangeSpec.witness6 (enc := enc) (C := Tryz.checked) false ⟨#[], #[.agg #[.int .i64 0, .int .u64 0, .int .i64 0, .string ByteArray.empty, .bool false, .string ByteArray.empty, .int .u64 0, .slice none 0 0, .slice none 0 0, .slice none 0 0, .slice none 0 0, .slice none 0 0]], []⟩ 8 (by kernel_rfl) (by kernel_rfl) (by kernel_rfl) (by kernel_rfl)) ?_
  intro W base args ds gs before hval0 hW hcnd _
  have hval : ∀ (j : Nat) t v, Tryz.f3.params[j]? = some t → args[j]? = some v → Value.okWide Tryz.prog W .any base t v := hval0
  have hW' := hW
  obtain ⟨p, q, hA0, hV, rfl, hfz, hnd⟩ := hW
  have hA : DataW.TrodAll enc Tryz.prog W 0 (fun _ => true) true Tryz.f3.params.toList args.toList ds p := hA0
  rw [Tryz.params3] at hA hval
  obtain ⟨v0, vs0, d0, ds0, p0, q0, hargs, rfl, rfl, h0, r0⟩ := trodAll_cons hA
  obtain ⟨rfl, rfl, rfl⟩ := trodAll_nil r0
  obtain rfl : args = #[v0] := by cases args; simp_all
  obtain ⟨rfl, rfl⟩ := trodVars_none hV
  have k0 := h0
  have lt0 : ∀ x ∈ p0, x.block < W.heap.size := by obtain ⟨m, hm⟩ := k0; exact DataW.trod_lt m _ _ _ hm
  obtain ⟨q0, rfl, w0, o0⟩ := rec_of (hval 0 31 v0 rfl rfl) h0
  clear hA0 hval0
  refine (walk_RecCodes q0 W w0 o0).mono fun e W' ⟨he, bel⟩ => ?_
  subst he
  exact ⟨_, rfl, _, _, _, [], _, [], hW', trodAll_mk1 (shut_bool Tryz.underlying4 _), (trodAll_cons_mk (Below.trod laidOut (by kernel_rfl) (of_decide_eq_true (by kernel_rfl)) k0 bel lt0) trodAll_mk0), rfl, bel.frame _, fun h => by cases h⟩

theorem over : Rows.recCodesRow.holds Tryz.pinned (OpenSpec.ofChange Rows.recCodesSpec) :=
  OpenClaim.holds_of_wide 3 Tryz.f3 rfl rfl rfl rfl rfl rfl rfl ⟨rfl, rfl, rfl, rfl, rfl⟩ rfl rfl rfl rfl rfl (by kernel_rfl) Tryz.func3 (by kernel_rfl)
    (of_decide_eq_true (by kernel_rfl)) (by unfold Func.isWrapper; first | (rw [if_pos (by decide +kernel)]; kernel_rfl) | (rw [if_neg (by decide +kernel)]; exact ⟨rfl, rfl⟩))
    (fun os started H enc _ => lifted os started H enc)
end Go.Proofs.YtbgofajldkblmaaGreat.recCodesDone

namespace Go.Proofs.YtbgofajldkblmaaGreat
/-- The statement. -/
theorem recCodes_holds : Rows.RecCodesSaid := recCodesDone.over
#print axioms recCodes_holds
end Go.Proofs.YtbgofajldkblmaaGreat

/- rec: the law's right of any record; Decode of a right record's bytes. Own lemmas, no statement. -/
import Derived.Test.YthkmohcdgnldgaaGreatRecL71
import Derived.Test.YthkmohcdgnldgaaGreatRecL72
import Derived.Test.YthkmohcdgnldgaaGreatRecL73
import Derived.Test.YthkmohcdgnldgaaGreatRecL74
import Derived.Test.YthkmohcdgnldgaaGreatRecL75
import Derived.Test.YthkmohcdgnldgaaGreatRecL76
import Derived.Test.YthkmohcdgnldgaaGreatRecL77
import Derived.Test.YthkmohcdgnldgaaGreatRecL78
import Derived.Test.YthkmohcdgnldgaaGreatRecR6
set_option linter.unusedSimpArgs false
set_option linter.unusedVariables false
namespace Go.Proofs.YthkmohcdgnldgaaGreat
open Go.ChangeShapes Go.WideShapes Go.ChangeAt Go.RowKit

set_option maxRecDepth 100000 in
set_option maxHeartbeats 4000000 in
theorem right12_0 (kind num node : Int) (key : ByteArray) (was : Bool) (old : ByteArray) (prev : Int) (na : Option Addr) (nn nc : Nat) (ra : Option Addr) (rn rc : Nat) (ga : Option Addr) (gn gc : Nat) (oa : Option Addr) (om oc : Nat) (da : Option Addr) (dn dc : Nat) (w : World) (hk : kind < 1 ∨ 8 < kind) :
    Calls Tryz.prog 10 #[.agg #[.int .i64 kind, .int .u64 num, .int .i64 node, .string key, .bool was, .string old, .int .u64 prev, .slice na nn nc, .slice ra rn rc, .slice ga gn gc, .slice oa om oc, .slice da dn dc]] w (BoolP false w) := by
  have HB : Hid (Blk (w.alloc (.cells #[.int .i64 kind, .int .u64 num, .int .i64 node, .string key, .bool was, .string old, .int .u64 prev, .slice na nn nc, .slice ra rn rc, .slice ga gn gc, .slice oa om oc, .slice da dn dc] 31)) w.heap.size #[.int .i64 kind, .int .u64 num, .int .i64 node, .string key, .bool was, .string old, .int .u64 prev, .slice na nn nc, .slice ra rn rc, .slice ga gn gc, .slice oa om oc, .slice da dn dc] 31) := Blk.new _ _ _
  have HY : Hid (Below w.heap.size w (w.alloc (.cells #[.int .i64 kind, .int .u64 num, .int .i64 node, .string key, .bool was, .string old, .int .u64 prev, .slice na nn nc, .slice ra rn rc, .slice ga gn gc, .slice oa om oc, .slice da dn dc] 31))) := (Below.refl _ _).alloc (Nat.le_refl _) _
  go_enter Tryz.func10, Tryz.ntmps10
  go_upto_region 1 with fail
  generalize (w.alloc (.cells #[.int .i64 kind, .int .u64 num, .int .i64 node, .string key, .bool was, .string old, .int .u64 prev, .slice na nn nc, .slice ra rn rc, .slice ga gn gc, .slice oa om oc, .slice da dn dc] 31)) = w0 at *
  have z0 : w0.cell? ⟨w.heap.size, 0, none⟩ = some (.int .i64 kind) := HB.out.cell 0
  have z1 : w0.cell? ⟨w.heap.size, 1, none⟩ = some (.int .u64 num) := HB.out.cell 1
  have z2 : w0.cell? ⟨w.heap.size, 2, none⟩ = some (.int .i64 node) := HB.out.cell 2
  have z3 : w0.cell? ⟨w.heap.size, 3, none⟩ = some (.string key) := HB.out.cell 3
  have z4 : w0.cell? ⟨w.heap.size, 4, none⟩ = some (.bool was) := HB.out.cell 4
  have z5 : w0.cell? ⟨w.heap.size, 5, none⟩ = some (.string old) := HB.out.cell 5
  have z6 : w0.cell? ⟨w.heap.size, 6, none⟩ = some (.int .u64 prev) := HB.out.cell 6
  have z7 : w0.cell? ⟨w.heap.size, 7, none⟩ = some (.slice na nn nc) := HB.out.cell 7
  have z8 : w0.cell? ⟨w.heap.size, 8, none⟩ = some (.slice ra rn rc) := HB.out.cell 8
  have z9 : w0.cell? ⟨w.heap.size, 9, none⟩ = some (.slice ga gn gc) := HB.out.cell 9
  have z10 : w0.cell? ⟨w.heap.size, 10, none⟩ = some (.slice oa om oc) := HB.out.cell 10
  have z11 : w0.cell? ⟨w.heap.size, 11, none⟩ = some (.slice da dn dc) := HB.out.cell 11
  by_cases h1 : kind < 1
  · go_wp2
    go_ret
    exact ⟨rfl, HY.out⟩
  · have h8 : 8 < kind := by omega
    clear hk
    go_wp2
    go_ret
    exact ⟨rfl, HY.out⟩
theorem lawRight12_any (x : RecV) (w : World) (h : x.At w) (ho : x.om ≤ 20) (hd : x.dn ≤ 20) : Calls Tryz.prog 10 #[.agg #[.int .i64 x.kind, .int .u64 x.num, .int .i64 x.node, .string x.key, .bool x.was, .string x.old, .int .u64 x.prev, .slice x.na x.nn x.nc, .slice x.ra x.rn x.rc, .slice x.ga x.gn x.gc, .slice x.oa x.om x.oc, .slice x.da x.dn x.dc]] w (BoolP (rightRec x) w) := by
  rcases (show (x.kind < 1 ∨ 8 < x.kind) ∨ x.kind = 1 ∨ x.kind = 2 ∨ x.kind = 3 ∨ x.kind = 4 ∨ x.kind = 5 ∨ x.kind = 6 ∨ x.kind = 7 ∨ x.kind = 8 by omega) with k | k | k | k | k | k | k | k | k
  · have e : rightRec x = false := by
      cases e : rightRec x with
      | false => rfl
      | true => have h1 := (right_all e).1; omega
    rw [e]
    exact right12_0 _ _ _ _ _ _ _ _ _ _ _ _ _ _ _ _ _ _ _ _ _ _ w k
  · obtain ⟨kind, num, node, key, was, old, prev, na, nn, nc, ns, ra, rn, rc, rs, ga, gn, gc, gs, oa, om, oc, os, da, dn, dc, ds⟩ := x
    have k' : kind = 1 := k
    subst k'
    exact right12_1 num node key was old prev na nn nc ns ra rn rc rs ga gn gc gs oa om oc os da dn dc ds w _ h.nodes h.reads h.pages h.pagez h.opens h.openz h.dones h.donez ho hd h.keyz h.oldz right_lists (parts_right (show (1 : Int) ≤ 1 by decide) (show (1 : Int) ≤ 8 by decide))
  · obtain ⟨kind, num, node, key, was, old, prev, na, nn, nc, ns, ra, rn, rc, rs, ga, gn, gc, gs, oa, om, oc, os, da, dn, dc, ds⟩ := x
    have k' : kind = 2 := k
    subst k'
    exact right12_2 num node key was old prev na nn nc ns ra rn rc rs ga gn gc gs oa om oc os da dn dc ds w _ h.nodes h.reads h.pages h.pagez h.opens h.openz h.dones h.donez ho hd h.keyz h.oldz right_lists (parts_right (show (1 : Int) ≤ 2 by decide) (show (2 : Int) ≤ 8 by decide))
  · obtain ⟨kind, num, node, key, was, old, prev, na, nn, nc, ns, ra, rn, rc, rs, ga, gn, gc, gs, oa, om, oc, os, da, dn, dc, ds⟩ := x
    have k' : kind = 3 := k
    subst k'
    exact right12_3 num node key was old prev na nn nc ns ra rn rc rs ga gn gc gs oa om oc os da dn dc ds w _ h.nodes h.reads h.pages h.pagez h.opens h.openz h.dones h.donez ho hd h.keyz h.oldz right_lists (parts_right (show (1 : Int) ≤ 3 by decide) (show (3 : Int) ≤ 8 by decide))
  · obtain ⟨kind, num, node, key, was, old, prev, na, nn, nc, ns, ra, rn, rc, rs, ga, gn, gc, gs, oa, om, oc, os, da, dn, dc, ds⟩ := x
    have k' : kind = 4 := k
    subst k'
    exact right12_4 num node key was old prev na nn nc ns ra rn rc rs ga gn gc gs oa om oc os da dn dc ds w _ h.nodes h.reads h.pages h.pagez h.opens h.openz h.dones h.donez ho hd h.keyz h.oldz right_lists (parts_right (show (1 : Int) ≤ 4 by decide) (show (4 : Int) ≤ 8 by decide))
  · obtain ⟨kind, num, node, key, was, old, prev, na, nn, nc, ns, ra, rn, rc, rs, ga, gn, gc, gs, oa, om, oc, os, da, dn, dc, ds⟩ := x
    have k' : kind = 5 := k
    subst k'
    exact right12_5 num node key was old prev na nn nc ns ra rn rc rs ga gn gc gs oa om oc os da dn dc ds w _ h.nodes h.reads h.pages h.pagez h.opens h.openz h.dones h.donez ho hd h.keyz h.oldz right_lists (parts_right (show (1 : Int) ≤ 5 by decide) (show (5 : Int) ≤ 8 by decide))
  · obtain ⟨kind, num, node, key, was, old, prev, na, nn, nc, ns, ra, rn, rc, rs, ga, gn, gc, gs, oa, om, oc, os, da, dn, dc, ds⟩ := x
    have k' : kind = 6 := k
    subst k'
    exact right12_6 num node key was old prev na nn nc ns ra rn rc rs ga gn gc gs oa om oc os da dn dc ds w _ h.nodes h.reads h.pages h.pagez h.opens h.openz h.dones h.donez ho hd h.keyz h.oldz right_lists (parts_right (show (1 : Int) ≤ 6 by decide) (show (6 : Int) ≤ 8 by decide))
  · obtain ⟨kind, num, node, key, was, old, prev, na, nn, nc, ns, ra, rn, rc, rs, ga, gn, gc, gs, oa, om, oc, os, da, dn, dc, ds⟩ := x
    have k' : kind = 7 := k
    subst k'
    exact right12_7 num node key was old prev na nn nc ns ra rn rc rs ga gn gc gs oa om oc os da dn dc ds w _ h.nodes h.reads h.pages h.pagez h.opens h.openz h.dones h.donez ho hd h.keyz h.oldz right_lists (parts_right (show (1 : Int) ≤ 7 by decide) (show (7 : Int) ≤ 8 by decide))
  · obtain ⟨kind, num, node, key, was, old, prev, na, nn, nc, ns, ra, rn, rc, rs, ga, gn, gc, gs, oa, om, oc, os, da, dn, dc, ds⟩ := x
    have k' : kind = 8 := k
    subst k'
    exact right12_8 num node key was old prev na nn nc ns ra rn rc rs ga gn gc gs oa om oc os da dn dc ds w _ h.nodes h.reads h.pages h.pagez h.opens h.openz h.dones h.donez ho hd h.keyz h.oldz right_lists (parts_right (show (1 : Int) ≤ 8 by decide) (show (8 : Int) ≤ 8 by decide))
def chgOkQ (x : ChgQ) : Bool := decide (0 ≤ x.n) && decide (x.n < 65536) && rightPg x.p
def chgLtQ (x y : ChgQ) : Bool := ltI x.n y.n
def openOkQ (x : OpenQ) : Bool := tidOk x.num x.node && decide (x.last ≤ 4611686018427387904) && decide (x.first ≤ 4611686018427387904) && decide (0 ≤ x.count) && decide (x.count ≤ 1073741824) && readsOk x.rs
def openLtQ (x y : OpenQ) : Bool := elderT x.num x.node y.num y.node
def doneOkQ (x : DoneQ) : Bool := tidOk x.num x.node && nodesOk x.ns
def doneLtQ (x y : DoneQ) : Bool := elderT x.num x.node y.num y.node
theorem fits_c (m : Nat) (l : List ChgV) : fitsB chgOk chgLt noChg m l = fitsB chgOkQ chgLtQ noChg.q m (l.map ChgV.q) := fits_map ChgV.q (r := chgOkQ) (a := chgLtQ)
theorem fits_o (m : Nat) (l : List OpenV) : fitsB openOk openLt noOpen m l = fitsB openOkQ openLtQ noOpen.q m (l.map OpenV.q) := fits_map OpenV.q (r := openOkQ) (a := openLtQ)
theorem fits_d (m : Nat) (l : List DoneV) : fitsB doneOk doneLt noDone m l = fitsB doneOkQ doneLtQ noDone.q m (l.map DoneV.q) := fits_map DoneV.q (r := doneOkQ) (a := doneLtQ)
theorem right_q {x y : RecV} (h : x.q = y.q) : rightRec x = rightRec y := by
  have h' : RecQ.mk _ _ _ _ _ _ _ _ _ _ _ _ = RecQ.mk _ _ _ _ _ _ _ _ _ _ _ _ := h
  rw [RecQ.mk.injEq] at h'
  obtain ⟨e1, e2, e3, e4, e5, e6, e7, e8, e9, e10, e11, e12⟩ := h'
  have l1 : x.gs.length = y.gs.length := by have := congrArg List.length e10; simpa using this
  have l2 : x.os.length = y.os.length := by have := congrArg List.length e11; simpa using this
  have l3 : x.ds.length = y.ds.length := by have := congrArg List.length e12; simpa using this
  unfold rightRec rtTid rtOld rtTurn rtLists rtReads rtNodes rtOpens rtDones
  rw [fits_c, fits_c, fits_o, fits_o, fits_d, fits_d, e1, e2, e3, e4, e5, e6, e7, e8, e9, e10, e11, e12, l1, l2, l3]
theorem decoded {x : RecV} {w w' : World} {e : Ending} (h : DecRP (recBytes x) w e w') (hr : rightRec x = true) (hw : x.Wf) (hl : (recBytes x).length ≤ 16384) :
    ∃ z : RecV, e = .returned (.tuple #[recVal z, .int .i64 0]) ∧ z.At w' ∧ x.q = z.q ∧ Below w.heap.size w w' := by
  have h0 := rec_read hr hw []
  rw [List.append_nil] at h0
  obtain ⟨h1, y⟩ := h
  have hq : (rrec (recBytes x) 0).1 = x.q := by rw [h0]
  rw [hq] at h1
  rcases h1 with ⟨z, he, h2, _, _, _, _, h3⟩ | ⟨_, u, hu, h2, h3⟩
  · exact ⟨z, he, h2, h3.symm, y⟩
  · exact absurd ⟨(right_q h2).trans hr, by rw [recBytes_q, recBytes_q, h2], hl⟩ h3
end Go.Proofs.YthkmohcdgnldgaaGreat

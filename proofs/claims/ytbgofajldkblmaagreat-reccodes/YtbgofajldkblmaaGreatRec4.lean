/- rec's Right. Own lemmas, no statement. -/
import Derived.Test.YtbgofajldkblmaaGreatRec3
import Derived.Deep.CutRange
set_option linter.unusedSimpArgs false
set_option linter.unusedVariables false
namespace Go.Proofs.YtbgofajldkblmaaGreat
open Go.ChangeShapes Go.WideShapes Go.ChangeAt Go.RowKit

/-- A record, by its cells and plainly. -/
structure RecV where
  kind : Int
  num : Int
  node : Int
  key : ByteArray
  was : Bool
  old : ByteArray
  prev : Int
  na : Option Addr
  nn : Nat
  nc : Nat
  ns : List Int
  ra : Option Addr
  rn : Nat
  rc : Nat
  rs : List ByteArray
  ga : Option Addr
  gn : Nat
  gc : Nat
  gs : List ChgV
  oa : Option Addr
  om : Nat
  oc : Nat
  os : List OpenV
  da : Option Addr
  dn : Nat
  dc : Nat
  ds : List DoneV
structure RecV.At (W : World) (x : RecV) : Prop where
  keyz : x.key.size ≤ maxLen
  oldz : x.old.size ≤ maxLen
  nodes : Rd W (.slice x.na x.nn x.nc) (iv x.ns)
  reads : Rd W (.slice x.ra x.rn x.rc) (sv x.rs)
  readz : ∀ s ∈ x.rs, s.size ≤ maxLen
  pages : RowsN W 9 ChgV.c (.slice x.ga x.gn x.gc) x.gs
  pagez : ∀ c ∈ x.gs, c.At W
  opens : RowsN W 7 OpenV.c (.slice x.oa x.om x.oc) x.os
  openz : ∀ c ∈ x.os, c.At W
  dones : RowsN W 3 DoneV.c (.slice x.da x.dn x.dc) x.ds
  donez : ∀ c ∈ x.ds, c.At W
theorem RecV.At.below {W W' : World} {x : RecV} (h : x.At W) (hb : Below W.heap.size W W') : x.At W' := ⟨h.keyz, h.oldz, h.nodes.below hb, h.reads.below hb, h.readz, h.pages.below hb, fun c hc => (h.pagez c hc).below hb, h.opens.below hb, fun c hc => (h.openz c hc).below hb, h.dones.below hb, fun c hc => (h.donez c hc).below hb⟩
def noOpen : OpenV := ⟨0, 0, 0, 0, 0, false, none, 0, 0, []⟩
def noDone : DoneV := ⟨0, 0, none, 0, 0, []⟩
def noChg : ChgV := ⟨0, ⟨0, [], [], [], 0, 0, 0, 0⟩, none, 0, 0, none, 0, 0, none, 0, 0⟩
def rtTid (x : RecV) : Bool := if x.kind = 8 then decide (x.num = 0) && decide (x.node = 0) else tidOk x.num x.node
def rtOld (x : RecV) : Bool := if x.kind = 1 then keyOk x.key && decide (x.old.size ≤ 48) && (x.was || x.old.toList.isEmpty) else x.key.toList.isEmpty && !x.was && x.old.toList.isEmpty
def rtTurn (x : RecV) : Bool := if x.kind = 1 ∨ x.kind = 2 then decide (x.prev ≤ 4611686018427387904) && fitsB chgOk chgLt noChg 30 x.gs else decide (x.prev = 0) && decide (x.gs.length = 0)
def rtReads (x : RecV) : Bool := decide (x.rs.length = 0) || decide (x.kind = 3) && readsOk x.rs
def rtNodes (x : RecV) : Bool := decide (x.ns.length = 0) || decide (x.kind = 6) && nodesOk x.ns
def rtOpens (x : RecV) : Bool := decide (x.os.length = 0) || decide (x.kind = 8) && fitsB openOk openLt noOpen 200 x.os
def rtDones (x : RecV) : Bool := decide (x.ds.length = 0) || decide (x.kind = 8) && fitsB doneOk doneLt noDone 200 x.ds
def rtLists (x : RecV) : Bool := rtReads x && rtNodes x && rtOpens x && rtDones x
def rightRec (x : RecV) : Bool := decide (1 ≤ x.kind) && decide (x.kind ≤ 8) && rtTid x && rtOld x && rtTurn x && rtLists x

set_option maxHeartbeats 2000000 in
theorem rightTid_any (x : RecV) (w : World) : Calls Tryz.prog 18 #[.agg #[.int .i64 x.kind, .int .u64 x.num, .int .i64 x.node, .string x.key, .bool x.was, .string x.old, .int .u64 x.prev, .slice x.na x.nn x.nc, .slice x.ra x.rn x.rc, .slice x.ga x.gn x.gc, .slice x.oa x.om x.oc, .slice x.da x.dn x.dc]] w fun e w' => e = .returned (.bool (rtTid x)) ∧ Below w.heap.size w w' := by
  have HB : Hid (Blk (w.alloc (.cells #[.int .i64 x.kind, .int .u64 x.num, .int .i64 x.node, .string x.key, .bool x.was, .string x.old, .int .u64 x.prev, .slice x.na x.nn x.nc, .slice x.ra x.rn x.rc, .slice x.ga x.gn x.gc, .slice x.oa x.om x.oc, .slice x.da x.dn x.dc] 31)) w.heap.size #[.int .i64 x.kind, .int .u64 x.num, .int .i64 x.node, .string x.key, .bool x.was, .string x.old, .int .u64 x.prev, .slice x.na x.nn x.nc, .slice x.ra x.rn x.rc, .slice x.ga x.gn x.gc, .slice x.oa x.om x.oc, .slice x.da x.dn x.dc] 31) := Blk.new _ _ _
  have HY : Hid (Below w.heap.size w (w.alloc (.cells #[.int .i64 x.kind, .int .u64 x.num, .int .i64 x.node, .string x.key, .bool x.was, .string x.old, .int .u64 x.prev, .slice x.na x.nn x.nc, .slice x.ra x.rn x.rc, .slice x.ga x.gn x.gc, .slice x.oa x.om x.oc, .slice x.da x.dn x.dc] 31))) := (Below.refl _ _).alloc (Nat.le_refl _) _
  go_enter Tryz.func18, Tryz.ntmps18
  go_upto_region 1 with fail
  generalize w.alloc (.cells #[.int .i64 x.kind, .int .u64 x.num, .int .i64 x.node, .string x.key, .bool x.was, .string x.old, .int .u64 x.prev, .slice x.na x.nn x.nc, .slice x.ra x.rn x.rc, .slice x.ga x.gn x.gc, .slice x.oa x.om x.oc, .slice x.da x.dn x.dc] 31) = w0 at *
  generalize Value.agg #[.int .i64 x.kind, .int .u64 x.num, .int .i64 x.node, .string x.key, .bool x.was, .string x.old, .int .u64 x.prev, .slice x.na x.nn x.nc, .slice x.ra x.rn x.rc, .slice x.ga x.gn x.gc, .slice x.oa x.om x.oc, .slice x.da x.dn x.dc] = v0
  have z0 : w0.cell? ⟨w.heap.size, 0, none⟩ = some (.int .i64 x.kind) := HB.out.cell 0
  have z1 : w0.cell? ⟨w.heap.size, 1, none⟩ = some (.int .u64 x.num) := HB.out.cell 1
  have z2 : w0.cell? ⟨w.heap.size, 2, none⟩ = some (.int .i64 x.node) := HB.out.cell 2
  have z3 : w0.cell? ⟨w.heap.size, 3, none⟩ = some (.string x.key) := HB.out.cell 3
  have z4 : w0.cell? ⟨w.heap.size, 4, none⟩ = some (.bool x.was) := HB.out.cell 4
  have z5 : w0.cell? ⟨w.heap.size, 5, none⟩ = some (.string x.old) := HB.out.cell 5
  have z6 : w0.cell? ⟨w.heap.size, 6, none⟩ = some (.int .u64 x.prev) := HB.out.cell 6
  have z7 : w0.cell? ⟨w.heap.size, 7, none⟩ = some (.slice x.na x.nn x.nc) := HB.out.cell 7
  have z8 : w0.cell? ⟨w.heap.size, 8, none⟩ = some (.slice x.ra x.rn x.rc) := HB.out.cell 8
  have z9 : w0.cell? ⟨w.heap.size, 9, none⟩ = some (.slice x.ga x.gn x.gc) := HB.out.cell 9
  have z10 : w0.cell? ⟨w.heap.size, 10, none⟩ = some (.slice x.oa x.om x.oc) := HB.out.cell 10
  have z11 : w0.cell? ⟨w.heap.size, 11, none⟩ = some (.slice x.da x.dn x.dc) := HB.out.cell 11
  by_cases h8 : x.kind = 8
  · have HT : Hid (rtTid x = (decide (x.num = 0) && decide (x.node = 0))) := by show _ = _; unfold rtTid; rw [if_pos h8]
    by_cases hn : x.num = 0
    · by_cases hm : x.node = 0
      · have HN : Hid (x.num = 0 ∧ x.node = 0) := ⟨hn, hm⟩
        go_wp2
        go_ret
        exact ⟨ret_bool (by rw [HT.out, decide_eq_true HN.out.1, decide_eq_true HN.out.2]; rfl), HY.out⟩
      · have HN : Hid (decide (x.node = 0) = false) := decide_eq_false hm
        go_wp2
        go_ret
        exact ⟨ret_bool (by rw [HT.out, HN.out]; simp), HY.out⟩
    · have HN : Hid (decide (x.num = 0) = false) := decide_eq_false hn
      go_wp2
      go_ret
      exact ⟨ret_bool (by rw [HT.out, HN.out]; simp), HY.out⟩
  · have HT : Hid (rtTid x = tidOk x.num x.node) := by show _ = _; unfold rtTid; rw [if_neg h8]
    have h9 : (x.kind == 8) = false := beq_eq_false_iff_ne.2 h8
    go_wp2_with fail
    refine (isTid_any _ _ _).mono ?_
    rintro e w1 ⟨rfl, y⟩
    have HY1 : Hid (Below w.heap.size w w1) := ext_trans HY.out y
    clear y
    go_wp2
    go_ret
    exact ⟨ret_bool (by rw [HT.out]), HY1.out⟩

set_option maxHeartbeats 2000000 in
theorem rightOld_any (x : RecV) (w : World) (h1 : x.key.size ≤ maxLen) (h2 : x.old.size ≤ maxLen) : Calls Tryz.prog 19 #[.agg #[.int .i64 x.kind, .int .u64 x.num, .int .i64 x.node, .string x.key, .bool x.was, .string x.old, .int .u64 x.prev, .slice x.na x.nn x.nc, .slice x.ra x.rn x.rc, .slice x.ga x.gn x.gc, .slice x.oa x.om x.oc, .slice x.da x.dn x.dc]] w fun e w' => e = .returned (.bool (rtOld x)) ∧ Below w.heap.size w w' := by
  have HKZ : Hid (x.key.size ≤ maxLen) := h1
  have HOZ : Hid (x.old.size ≤ maxLen) := h2
  clear h1 h2
  have HB : Hid (Blk (w.alloc (.cells #[.int .i64 x.kind, .int .u64 x.num, .int .i64 x.node, .string x.key, .bool x.was, .string x.old, .int .u64 x.prev, .slice x.na x.nn x.nc, .slice x.ra x.rn x.rc, .slice x.ga x.gn x.gc, .slice x.oa x.om x.oc, .slice x.da x.dn x.dc] 31)) w.heap.size #[.int .i64 x.kind, .int .u64 x.num, .int .i64 x.node, .string x.key, .bool x.was, .string x.old, .int .u64 x.prev, .slice x.na x.nn x.nc, .slice x.ra x.rn x.rc, .slice x.ga x.gn x.gc, .slice x.oa x.om x.oc, .slice x.da x.dn x.dc] 31) := Blk.new _ _ _
  have HY : Hid (Below w.heap.size w (w.alloc (.cells #[.int .i64 x.kind, .int .u64 x.num, .int .i64 x.node, .string x.key, .bool x.was, .string x.old, .int .u64 x.prev, .slice x.na x.nn x.nc, .slice x.ra x.rn x.rc, .slice x.ga x.gn x.gc, .slice x.oa x.om x.oc, .slice x.da x.dn x.dc] 31))) := (Below.refl _ _).alloc (Nat.le_refl _) _
  go_enter Tryz.func19, Tryz.ntmps19
  go_upto_region 1 with fail
  generalize w.alloc (.cells #[.int .i64 x.kind, .int .u64 x.num, .int .i64 x.node, .string x.key, .bool x.was, .string x.old, .int .u64 x.prev, .slice x.na x.nn x.nc, .slice x.ra x.rn x.rc, .slice x.ga x.gn x.gc, .slice x.oa x.om x.oc, .slice x.da x.dn x.dc] 31) = w0 at *
  generalize Value.agg #[.int .i64 x.kind, .int .u64 x.num, .int .i64 x.node, .string x.key, .bool x.was, .string x.old, .int .u64 x.prev, .slice x.na x.nn x.nc, .slice x.ra x.rn x.rc, .slice x.ga x.gn x.gc, .slice x.oa x.om x.oc, .slice x.da x.dn x.dc] = v0
  have z0 : w0.cell? ⟨w.heap.size, 0, none⟩ = some (.int .i64 x.kind) := HB.out.cell 0
  have z1 : w0.cell? ⟨w.heap.size, 1, none⟩ = some (.int .u64 x.num) := HB.out.cell 1
  have z2 : w0.cell? ⟨w.heap.size, 2, none⟩ = some (.int .i64 x.node) := HB.out.cell 2
  have z3 : w0.cell? ⟨w.heap.size, 3, none⟩ = some (.string x.key) := HB.out.cell 3
  have z4 : w0.cell? ⟨w.heap.size, 4, none⟩ = some (.bool x.was) := HB.out.cell 4
  have z5 : w0.cell? ⟨w.heap.size, 5, none⟩ = some (.string x.old) := HB.out.cell 5
  have z6 : w0.cell? ⟨w.heap.size, 6, none⟩ = some (.int .u64 x.prev) := HB.out.cell 6
  have z7 : w0.cell? ⟨w.heap.size, 7, none⟩ = some (.slice x.na x.nn x.nc) := HB.out.cell 7
  have z8 : w0.cell? ⟨w.heap.size, 8, none⟩ = some (.slice x.ra x.rn x.rc) := HB.out.cell 8
  have z9 : w0.cell? ⟨w.heap.size, 9, none⟩ = some (.slice x.ga x.gn x.gc) := HB.out.cell 9
  have z10 : w0.cell? ⟨w.heap.size, 10, none⟩ = some (.slice x.oa x.om x.oc) := HB.out.cell 10
  have z11 : w0.cell? ⟨w.heap.size, 11, none⟩ = some (.slice x.da x.dn x.dc) := HB.out.cell 11
  by_cases h8 : x.kind = 1
  · have HT : Hid (rtOld x = (keyOk x.key && decide (x.old.size ≤ 48) && (x.was || x.old.toList.isEmpty))) := by show _ = _; unfold rtOld; rw [if_pos h8]
    go_wp2_with fail
    refine (isKey_any _ _ HKZ.out).mono ?_
    rintro e w1 ⟨rfl, hw⟩
    subst hw
    cases hk : keyOk x.key with
    | false =>
      have HK : Hid (keyOk x.key = false) := hk
      clear hk
      go_wp2
      go_ret
      exact ⟨ret_bool (by rw [HT.out, HK.out]; rfl), HY.out⟩
    | true =>
      have HK : Hid (keyOk x.key = true) := hk
      clear hk
      go_wp2_with fail
      refine (keyValue_any _ _ HOZ.out).mono ?_
      rintro e w1 ⟨rfl, hw⟩
      subst hw
      by_cases h48 : 48 < x.old.size
      · have HS : Hid (decide (x.old.size ≤ 48) = false) := decide_eq_false (by omega)
        rw [if_pos h48]
        go_wp2
        go_ret
        exact ⟨ret_bool (by rw [HT.out, HS.out]; simp), HY.out⟩
      · have HS : Hid (decide (x.old.size ≤ 48) = true) := decide_eq_true (by omega)
        rw [if_neg h48]
        cases hw : x.was with
        | true =>
          have HW : Hid (x.was = true) := hw
          go_wp2
          go_ret
          exact ⟨ret_bool (by rw [HT.out, HS.out, HK.out, HW.out]; rfl), HY.out⟩
        | false =>
          have HW : Hid (x.was = false) := hw
          go_wp2
          go_ret
          exact ⟨ret_bool (by rw [HT.out, HS.out, HK.out, HW.out]; rfl), HY.out⟩
  · have HT : Hid (rtOld x = (x.key.toList.isEmpty && !x.was && x.old.toList.isEmpty)) := by show _ = _; unfold rtOld; rw [if_neg h8]
    have h9 : (x.kind == 1) = false := beq_eq_false_iff_ne.2 h8
    cases hk : x.key.toList.isEmpty with
    | false =>
      have HK : Hid (x.key.toList.isEmpty = false) := hk
      go_wp2
      go_ret
      exact ⟨ret_bool (by rw [HT.out, HK.out]; rfl), HY.out⟩
    | true =>
      have HK : Hid (x.key.toList.isEmpty = true) := hk
      cases hw : x.was with
      | true =>
        have HW : Hid (x.was = true) := hw
        go_wp2
        go_ret
        exact ⟨ret_bool (by rw [HT.out, HK.out, HW.out]; rfl), HY.out⟩
      | false =>
        have HW : Hid (x.was = false) := hw
        go_wp2
        go_ret
        exact ⟨ret_bool (by rw [HT.out, HK.out, HW.out]; rfl), HY.out⟩

set_option maxHeartbeats 2000000 in
theorem rightTurn_any (x : RecV) (w : World) (h : x.At w) : Calls Tryz.prog 20 #[.agg #[.int .i64 x.kind, .int .u64 x.num, .int .i64 x.node, .string x.key, .bool x.was, .string x.old, .int .u64 x.prev, .slice x.na x.nn x.nc, .slice x.ra x.rn x.rc, .slice x.ga x.gn x.gc, .slice x.oa x.om x.oc, .slice x.da x.dn x.dc]] w fun e w' => e = .returned (.bool (rtTurn x)) ∧ Below w.heap.size w w' := by
  have HX : Hid (x.At w) := h
  have HGN : Hid (x.gn = x.gs.length) := (RowsN.len h.pages).1
  have hgm : x.gn ≤ 9223372036854775807 := by have := (RowsN.len h.pages).2; unfold maxLen at this; omega
  have HFC : Hid (∀ W, Below w.heap.size w W → Calls Tryz.prog 58 #[.slice x.ga x.gn x.gc, .int .i64 30, .func (.func 59) #[] #[], .func (.func 60) #[] #[]] W fun e w' => e = .returned (.bool (fitsB chgOk chgLt noChg 30 x.gs)) ∧ Below W.heap.size W w') := fun W hb => fitsC_any _ x.gs 30 chgOk chgLt noChg W (HX.out.pages.below hb) (by omega) (fun W' c hb' hc => chgRight_any c W' ((HX.out.pagez c hc).below (ext_trans hb hb'))) (fun W' c d _ _ _ => chgLower_any c d W')
  clear h
  have HB : Hid (Blk (w.alloc (.cells #[.int .i64 x.kind, .int .u64 x.num, .int .i64 x.node, .string x.key, .bool x.was, .string x.old, .int .u64 x.prev, .slice x.na x.nn x.nc, .slice x.ra x.rn x.rc, .slice x.ga x.gn x.gc, .slice x.oa x.om x.oc, .slice x.da x.dn x.dc] 31)) w.heap.size #[.int .i64 x.kind, .int .u64 x.num, .int .i64 x.node, .string x.key, .bool x.was, .string x.old, .int .u64 x.prev, .slice x.na x.nn x.nc, .slice x.ra x.rn x.rc, .slice x.ga x.gn x.gc, .slice x.oa x.om x.oc, .slice x.da x.dn x.dc] 31) := Blk.new _ _ _
  have HY : Hid (Below w.heap.size w (w.alloc (.cells #[.int .i64 x.kind, .int .u64 x.num, .int .i64 x.node, .string x.key, .bool x.was, .string x.old, .int .u64 x.prev, .slice x.na x.nn x.nc, .slice x.ra x.rn x.rc, .slice x.ga x.gn x.gc, .slice x.oa x.om x.oc, .slice x.da x.dn x.dc] 31))) := (Below.refl _ _).alloc (Nat.le_refl _) _
  go_enter Tryz.func20, Tryz.ntmps20
  go_upto_region 1 with fail
  generalize w.alloc (.cells #[.int .i64 x.kind, .int .u64 x.num, .int .i64 x.node, .string x.key, .bool x.was, .string x.old, .int .u64 x.prev, .slice x.na x.nn x.nc, .slice x.ra x.rn x.rc, .slice x.ga x.gn x.gc, .slice x.oa x.om x.oc, .slice x.da x.dn x.dc] 31) = w0 at *
  generalize Value.agg #[.int .i64 x.kind, .int .u64 x.num, .int .i64 x.node, .string x.key, .bool x.was, .string x.old, .int .u64 x.prev, .slice x.na x.nn x.nc, .slice x.ra x.rn x.rc, .slice x.ga x.gn x.gc, .slice x.oa x.om x.oc, .slice x.da x.dn x.dc] = v0
  have z0 : w0.cell? ⟨w.heap.size, 0, none⟩ = some (.int .i64 x.kind) := HB.out.cell 0
  have z1 : w0.cell? ⟨w.heap.size, 1, none⟩ = some (.int .u64 x.num) := HB.out.cell 1
  have z2 : w0.cell? ⟨w.heap.size, 2, none⟩ = some (.int .i64 x.node) := HB.out.cell 2
  have z3 : w0.cell? ⟨w.heap.size, 3, none⟩ = some (.string x.key) := HB.out.cell 3
  have z4 : w0.cell? ⟨w.heap.size, 4, none⟩ = some (.bool x.was) := HB.out.cell 4
  have z5 : w0.cell? ⟨w.heap.size, 5, none⟩ = some (.string x.old) := HB.out.cell 5
  have z6 : w0.cell? ⟨w.heap.size, 6, none⟩ = some (.int .u64 x.prev) := HB.out.cell 6
  have z7 : w0.cell? ⟨w.heap.size, 7, none⟩ = some (.slice x.na x.nn x.nc) := HB.out.cell 7
  have z8 : w0.cell? ⟨w.heap.size, 8, none⟩ = some (.slice x.ra x.rn x.rc) := HB.out.cell 8
  have z9 : w0.cell? ⟨w.heap.size, 9, none⟩ = some (.slice x.ga x.gn x.gc) := HB.out.cell 9
  have z10 : w0.cell? ⟨w.heap.size, 10, none⟩ = some (.slice x.oa x.om x.oc) := HB.out.cell 10
  have z11 : w0.cell? ⟨w.heap.size, 11, none⟩ = some (.slice x.da x.dn x.dc) := HB.out.cell 11
  by_cases h8 : x.kind = 1 ∨ x.kind = 2
  · have HT : Hid (rtTurn x = (decide (x.prev ≤ 4611686018427387904) && fitsB chgOk chgLt noChg 30 x.gs)) := by show _ = _; unfold rtTurn; rw [if_pos h8]
    by_cases hp : x.prev ≤ 4611686018427387904
    · have HP : Hid (x.prev ≤ 4611686018427387904) := hp
      rcases h8 with h8 | h8
      all_goals
        go_wp2_with fail
        refine (HFC.out _ HY.out).mono ?_
        rintro e w1 ⟨rfl, y⟩
        have HY1 : Hid (Below w.heap.size w w1) := ext_trans HY.out y
        clear y
        go_wp2
        go_ret
        exact ⟨ret_bool (by rw [HT.out, decide_eq_true HP.out]; rfl), HY1.out⟩
    · have HP : Hid (decide (x.prev ≤ 4611686018427387904) = false) := decide_eq_false hp
      rcases h8 with h8 | h8
      all_goals
        go_wp2
        go_ret
        exact ⟨ret_bool (by rw [HT.out, HP.out]; rfl), HY.out⟩
  · have HT : Hid (rtTurn x = (decide (x.prev = 0) && decide (x.gs.length = 0))) := by show _ = _; unfold rtTurn; rw [if_neg h8]
    have h1 : (x.kind != 1) = true := bne_iff_ne.2 (fun e => h8 (.inl e))
    have h2 : (x.kind != 2) = true := bne_iff_ne.2 (fun e => h8 (.inr e))
    clear h8
    by_cases hp : x.prev = 0
    · have HP : Hid (x.prev = 0) := hp
      go_wp2
      go_ret
      exact ⟨ret_bool (by rw [HT.out, decide_eq_true HP.out, ← HGN.out, Bool.eq_iff_iff]; simp), HY.out⟩
    · have HP : Hid (decide (x.prev = 0) = false) := decide_eq_false hp
      have hp2 : (x.prev == 0) = false := beq_eq_false_iff_ne.2 hp
      go_wp2
      go_ret
      exact ⟨ret_bool (by rw [HT.out, HP.out]; rfl), HY.out⟩

set_option maxRecDepth 100000 in
set_option maxHeartbeats 4000000 in
theorem rightLists_any (x : RecV) (w : World) (h : x.At w) : Calls Tryz.prog 21 #[.agg #[.int .i64 x.kind, .int .u64 x.num, .int .i64 x.node, .string x.key, .bool x.was, .string x.old, .int .u64 x.prev, .slice x.na x.nn x.nc, .slice x.ra x.rn x.rc, .slice x.ga x.gn x.gc, .slice x.oa x.om x.oc, .slice x.da x.dn x.dc]] w fun e w' => e = .returned (.bool (rtLists x)) ∧ Below w.heap.size w w' := by
  have HX : Hid (x.At w) := h
  have HRR : Hid (∀ W, Below w.heap.size w W → Calls Tryz.prog 61 #[.slice x.ra x.rn x.rc] W fun e w' => e = .returned (.bool (readsOk x.rs)) ∧ Below W.heap.size W w') := fun W hb => (rightReads_any _ x.rs W (HX.out.reads.below hb) HX.out.readz).mono fun e w' he => ⟨he.1, he.2 ▸ Below.refl _ _⟩
  have HNR : Hid (∀ W, Below w.heap.size w W → Calls Tryz.prog 62 #[.slice x.na x.nn x.nc] W fun e w' => e = .returned (.bool (nodesOk x.ns)) ∧ Below W.heap.size W w') := fun W hb => (rightNodes_any _ x.ns W (HX.out.nodes.below hb)).mono fun e w' he => ⟨he.1, he.2 ▸ Below.refl _ _⟩
  have HOR : Hid (∀ W, Below w.heap.size w W → Calls Tryz.prog 63 #[.slice x.oa x.om x.oc, .int .i64 200, .func (.func 64) #[] #[], .func (.func 65) #[] #[]] W fun e w' => e = .returned (.bool (fitsB openOk openLt noOpen 200 x.os)) ∧ Below W.heap.size W w') := fun W hb => fitsO_any _ x.os 200 openOk openLt noOpen W (HX.out.opens.below hb) (by omega) (fun W' c hb' hc => openRight_any c W' ((HX.out.openz c hc).below (ext_trans hb hb'))) (fun W' c d _ _ _ => openAhead_any c d W')
  have HDR : Hid (∀ W, Below w.heap.size w W → Calls Tryz.prog 66 #[.slice x.da x.dn x.dc, .int .i64 200, .func (.func 67) #[] #[], .func (.func 68) #[] #[]] W fun e w' => e = .returned (.bool (fitsB doneOk doneLt noDone 200 x.ds)) ∧ Below W.heap.size W w') := fun W hb => fitsD_any _ x.ds 200 doneOk doneLt noDone W (HX.out.dones.below hb) (by omega) (fun W' c hb' hc => doneRight_any c W' ((HX.out.donez c hc).below (ext_trans hb hb'))) (fun W' c d _ _ _ => doneAhead_any c d W')
  have HNL : Hid (x.rn = x.rs.length ∧ x.nn = x.ns.length ∧ x.om = x.os.length ∧ x.dn = x.ds.length) := ⟨by have := h.reads.at.1; rw [sv_length] at this; exact this, by have := h.nodes.at.1; rw [iv_length] at this; exact this, (RowsN.len h.opens).1, (RowsN.len h.dones).1⟩
  clear h
  have HB : Hid (Blk (w.alloc (.cells #[.int .i64 x.kind, .int .u64 x.num, .int .i64 x.node, .string x.key, .bool x.was, .string x.old, .int .u64 x.prev, .slice x.na x.nn x.nc, .slice x.ra x.rn x.rc, .slice x.ga x.gn x.gc, .slice x.oa x.om x.oc, .slice x.da x.dn x.dc] 31)) w.heap.size #[.int .i64 x.kind, .int .u64 x.num, .int .i64 x.node, .string x.key, .bool x.was, .string x.old, .int .u64 x.prev, .slice x.na x.nn x.nc, .slice x.ra x.rn x.rc, .slice x.ga x.gn x.gc, .slice x.oa x.om x.oc, .slice x.da x.dn x.dc] 31) := Blk.new _ _ _
  have HY : Hid (Below w.heap.size w (w.alloc (.cells #[.int .i64 x.kind, .int .u64 x.num, .int .i64 x.node, .string x.key, .bool x.was, .string x.old, .int .u64 x.prev, .slice x.na x.nn x.nc, .slice x.ra x.rn x.rc, .slice x.ga x.gn x.gc, .slice x.oa x.om x.oc, .slice x.da x.dn x.dc] 31))) := (Below.refl _ _).alloc (Nat.le_refl _) _
  go_enter Tryz.func21, Tryz.ntmps21
  go_upto_region 1 with fail
  generalize w.alloc (.cells #[.int .i64 x.kind, .int .u64 x.num, .int .i64 x.node, .string x.key, .bool x.was, .string x.old, .int .u64 x.prev, .slice x.na x.nn x.nc, .slice x.ra x.rn x.rc, .slice x.ga x.gn x.gc, .slice x.oa x.om x.oc, .slice x.da x.dn x.dc] 31) = w0 at *
  generalize Value.agg #[.int .i64 x.kind, .int .u64 x.num, .int .i64 x.node, .string x.key, .bool x.was, .string x.old, .int .u64 x.prev, .slice x.na x.nn x.nc, .slice x.ra x.rn x.rc, .slice x.ga x.gn x.gc, .slice x.oa x.om x.oc, .slice x.da x.dn x.dc] = v0
  have HB0 := HB
  have HY0 := HY
  clear HB HY
  have HRT1 : Hid (rtReads x = (decide (x.rs.length = 0) || decide (x.kind = 3) && readsOk x.rs)) := rfl
  go_cut [3] from 7 to 20 (fun s3 wx => s3 = .bool (rtReads x) ∧ Blk wx w.heap.size #[.int .i64 x.kind, .int .u64 x.num, .int .i64 x.node, .string x.key, .bool x.was, .string x.old, .int .u64 x.prev, .slice x.na x.nn x.nc, .slice x.ra x.rn x.rc, .slice x.ga x.gn x.gc, .slice x.oa x.om x.oc, .slice x.da x.dn x.dc] 31 ∧ Below w.heap.size w wx)
  case first =>
    have z0 : w0.cell? ⟨w.heap.size, 0, none⟩ = some (.int .i64 x.kind) := HB0.out.cell 0
    have z1 : w0.cell? ⟨w.heap.size, 8, none⟩ = some (.slice x.ra x.rn x.rc) := HB0.out.cell 8
    by_cases hn : x.rn = 0
    · have HE : Hid (decide (x.rs.length = 0) = true) := decide_eq_true (by rw [← HNL.out.1]; exact hn)
      have hn2 : ((x.rn : Int) == 0) = true := by simp [hn]
      go_wp2
      go_meet
      case rel => exact ⟨by rw [HRT1.out, HE.out]; simp, HB0.out, HY0.out⟩
    · have HE : Hid (decide (x.rs.length = 0) = false) := decide_eq_false (by rw [← HNL.out.1]; exact hn)
      have hn2 : ((x.rn : Int) == 0) = false := beq_eq_false_iff_ne.2 (by omega)
      have hn3 : ¬ ((x.rn : Int) = 0) := by omega
      by_cases hk : x.kind = 3
      · have HK : Hid (decide (x.kind = 3) = true) := decide_eq_true hk
        have hk2 : (x.kind == 3) = true := by simp [hk]
        go_wp2_with fail
        refine (HRR.out _ HY0.out).mono ?_
        rintro e w9 ⟨rfl, y⟩
        have HB9 : Hid (Blk w9 w.heap.size #[.int .i64 x.kind, .int .u64 x.num, .int .i64 x.node, .string x.key, .bool x.was, .string x.old, .int .u64 x.prev, .slice x.na x.nn x.nc, .slice x.ra x.rn x.rc, .slice x.ga x.gn x.gc, .slice x.oa x.om x.oc, .slice x.da x.dn x.dc] 31) := Blk.of HB0.out (y.block _ HB0.out.lt)
        have HY9 : Hid (Below w.heap.size w w9) := ext_trans HY0.out y
        clear y
        go_wp2
        go_meet
        case rel => exact ⟨by rw [HRT1.out, HE.out, HK.out]; simp, HB9.out, HY9.out⟩
      · have HK : Hid (decide (x.kind = 3) = false) := decide_eq_false hk
        have hk2 : (x.kind == 3) = false := beq_eq_false_iff_ne.2 hk
        go_wp2
        go_meet
        case rel => exact ⟨by rw [HRT1.out, HE.out, HK.out]; simp, HB0.out, HY0.out⟩
  case rest =>
  obtain ⟨rfl, hb, y⟩ := hcut
  rename World => w1
  have HB1 : Hid (Blk w1 w.heap.size #[.int .i64 x.kind, .int .u64 x.num, .int .i64 x.node, .string x.key, .bool x.was, .string x.old, .int .u64 x.prev, .slice x.na x.nn x.nc, .slice x.ra x.rn x.rc, .slice x.ga x.gn x.gc, .slice x.oa x.om x.oc, .slice x.da x.dn x.dc] 31) := hb
  have HY1 : Hid _ := y
  clear hb y HB0 HY0 HRT1
  go_upto_region 2 with fail
  have HRT2 : Hid (rtNodes x = (decide (x.ns.length = 0) || decide (x.kind = 6) && nodesOk x.ns)) := rfl
  go_cut [4] from 21 to 34 (fun s4 wx => s4 = .bool (rtNodes x) ∧ Blk wx w.heap.size #[.int .i64 x.kind, .int .u64 x.num, .int .i64 x.node, .string x.key, .bool x.was, .string x.old, .int .u64 x.prev, .slice x.na x.nn x.nc, .slice x.ra x.rn x.rc, .slice x.ga x.gn x.gc, .slice x.oa x.om x.oc, .slice x.da x.dn x.dc] 31 ∧ Below w.heap.size w wx)
  case first =>
    have z0 : w1.cell? ⟨w.heap.size, 0, none⟩ = some (.int .i64 x.kind) := HB1.out.cell 0
    have z1 : w1.cell? ⟨w.heap.size, 7, none⟩ = some (.slice x.na x.nn x.nc) := HB1.out.cell 7
    by_cases hn : x.nn = 0
    · have HE : Hid (decide (x.ns.length = 0) = true) := decide_eq_true (by rw [← HNL.out.2.1]; exact hn)
      have hn2 : ((x.nn : Int) == 0) = true := by simp [hn]
      go_wp2
      go_meet
      case rel => exact ⟨by rw [HRT2.out, HE.out]; simp, HB1.out, HY1.out⟩
    · have HE : Hid (decide (x.ns.length = 0) = false) := decide_eq_false (by rw [← HNL.out.2.1]; exact hn)
      have hn2 : ((x.nn : Int) == 0) = false := beq_eq_false_iff_ne.2 (by omega)
      have hn3 : ¬ ((x.nn : Int) = 0) := by omega
      by_cases hk : x.kind = 6
      · have HK : Hid (decide (x.kind = 6) = true) := decide_eq_true hk
        have hk2 : (x.kind == 6) = true := by simp [hk]
        go_wp2_with fail
        refine (HNR.out _ HY1.out).mono ?_
        rintro e w9 ⟨rfl, y⟩
        have HB9 : Hid (Blk w9 w.heap.size #[.int .i64 x.kind, .int .u64 x.num, .int .i64 x.node, .string x.key, .bool x.was, .string x.old, .int .u64 x.prev, .slice x.na x.nn x.nc, .slice x.ra x.rn x.rc, .slice x.ga x.gn x.gc, .slice x.oa x.om x.oc, .slice x.da x.dn x.dc] 31) := Blk.of HB1.out (y.block _ HB1.out.lt)
        have HY9 : Hid (Below w.heap.size w w9) := ext_trans HY1.out y
        clear y
        go_wp2
        go_meet
        case rel => exact ⟨by rw [HRT2.out, HE.out, HK.out]; simp, HB9.out, HY9.out⟩
      · have HK : Hid (decide (x.kind = 6) = false) := decide_eq_false hk
        have hk2 : (x.kind == 6) = false := beq_eq_false_iff_ne.2 hk
        go_wp2
        go_meet
        case rel => exact ⟨by rw [HRT2.out, HE.out, HK.out]; simp, HB1.out, HY1.out⟩
  case rest =>
  obtain ⟨rfl, hb, y⟩ := hcut
  rename World => w2
  have HB2 : Hid (Blk w2 w.heap.size #[.int .i64 x.kind, .int .u64 x.num, .int .i64 x.node, .string x.key, .bool x.was, .string x.old, .int .u64 x.prev, .slice x.na x.nn x.nc, .slice x.ra x.rn x.rc, .slice x.ga x.gn x.gc, .slice x.oa x.om x.oc, .slice x.da x.dn x.dc] 31) := hb
  have HY2 : Hid _ := y
  clear hb y HB1 HY1 HRT2
  go_upto_region 3 with fail
  have HRT3 : Hid (rtOpens x = (decide (x.os.length = 0) || decide (x.kind = 8) && fitsB openOk openLt noOpen 200 x.os)) := rfl
  go_cut [5] from 35 to 48 (fun s5 wx => s5 = .bool (rtOpens x) ∧ Blk wx w.heap.size #[.int .i64 x.kind, .int .u64 x.num, .int .i64 x.node, .string x.key, .bool x.was, .string x.old, .int .u64 x.prev, .slice x.na x.nn x.nc, .slice x.ra x.rn x.rc, .slice x.ga x.gn x.gc, .slice x.oa x.om x.oc, .slice x.da x.dn x.dc] 31 ∧ Below w.heap.size w wx)
  case first =>
    have z0 : w2.cell? ⟨w.heap.size, 0, none⟩ = some (.int .i64 x.kind) := HB2.out.cell 0
    have z1 : w2.cell? ⟨w.heap.size, 10, none⟩ = some (.slice x.oa x.om x.oc) := HB2.out.cell 10
    by_cases hn : x.om = 0
    · have HE : Hid (decide (x.os.length = 0) = true) := decide_eq_true (by rw [← HNL.out.2.2.1]; exact hn)
      have hn2 : ((x.om : Int) == 0) = true := by simp [hn]
      go_wp2
      go_meet
      case rel => exact ⟨by rw [HRT3.out, HE.out]; simp, HB2.out, HY2.out⟩
    · have HE : Hid (decide (x.os.length = 0) = false) := decide_eq_false (by rw [← HNL.out.2.2.1]; exact hn)
      have hn2 : ((x.om : Int) == 0) = false := beq_eq_false_iff_ne.2 (by omega)
      have hn3 : ¬ ((x.om : Int) = 0) := by omega
      by_cases hk : x.kind = 8
      · have HK : Hid (decide (x.kind = 8) = true) := decide_eq_true hk
        have hk2 : (x.kind == 8) = true := by simp [hk]
        go_wp2_with fail
        refine (HOR.out _ HY2.out).mono ?_
        rintro e w9 ⟨rfl, y⟩
        have HB9 : Hid (Blk w9 w.heap.size #[.int .i64 x.kind, .int .u64 x.num, .int .i64 x.node, .string x.key, .bool x.was, .string x.old, .int .u64 x.prev, .slice x.na x.nn x.nc, .slice x.ra x.rn x.rc, .slice x.ga x.gn x.gc, .slice x.oa x.om x.oc, .slice x.da x.dn x.dc] 31) := Blk.of HB2.out (y.block _ HB2.out.lt)
        have HY9 : Hid (Below w.heap.size w w9) := ext_trans HY2.out y
        clear y
        go_wp2
        go_meet
        case rel => exact ⟨by rw [HRT3.out, HE.out, HK.out]; simp, HB9.out, HY9.out⟩
      · have HK : Hid (decide (x.kind = 8) = false) := decide_eq_false hk
        have hk2 : (x.kind == 8) = false := beq_eq_false_iff_ne.2 hk
        go_wp2
        go_meet
        case rel => exact ⟨by rw [HRT3.out, HE.out, HK.out]; simp, HB2.out, HY2.out⟩
  case rest =>
  obtain ⟨rfl, hb, y⟩ := hcut
  rename World => w3
  have HB3 : Hid (Blk w3 w.heap.size #[.int .i64 x.kind, .int .u64 x.num, .int .i64 x.node, .string x.key, .bool x.was, .string x.old, .int .u64 x.prev, .slice x.na x.nn x.nc, .slice x.ra x.rn x.rc, .slice x.ga x.gn x.gc, .slice x.oa x.om x.oc, .slice x.da x.dn x.dc] 31) := hb
  have HY3 : Hid _ := y
  clear hb y HB2 HY2 HRT3
  go_upto_region 4 with fail
  have HRT4 : Hid (rtDones x = (decide (x.ds.length = 0) || decide (x.kind = 8) && fitsB doneOk doneLt noDone 200 x.ds)) := rfl
  go_cut [6] from 49 to 62 (fun s6 wx => s6 = .bool (rtDones x) ∧ Blk wx w.heap.size #[.int .i64 x.kind, .int .u64 x.num, .int .i64 x.node, .string x.key, .bool x.was, .string x.old, .int .u64 x.prev, .slice x.na x.nn x.nc, .slice x.ra x.rn x.rc, .slice x.ga x.gn x.gc, .slice x.oa x.om x.oc, .slice x.da x.dn x.dc] 31 ∧ Below w.heap.size w wx)
  case first =>
    have z0 : w3.cell? ⟨w.heap.size, 0, none⟩ = some (.int .i64 x.kind) := HB3.out.cell 0
    have z1 : w3.cell? ⟨w.heap.size, 11, none⟩ = some (.slice x.da x.dn x.dc) := HB3.out.cell 11
    by_cases hn : x.dn = 0
    · have HE : Hid (decide (x.ds.length = 0) = true) := decide_eq_true (by rw [← HNL.out.2.2.2]; exact hn)
      have hn2 : ((x.dn : Int) == 0) = true := by simp [hn]
      go_wp2
      go_meet
      case rel => exact ⟨by rw [HRT4.out, HE.out]; simp, HB3.out, HY3.out⟩
    · have HE : Hid (decide (x.ds.length = 0) = false) := decide_eq_false (by rw [← HNL.out.2.2.2]; exact hn)
      have hn2 : ((x.dn : Int) == 0) = false := beq_eq_false_iff_ne.2 (by omega)
      have hn3 : ¬ ((x.dn : Int) = 0) := by omega
      by_cases hk : x.kind = 8
      · have HK : Hid (decide (x.kind = 8) = true) := decide_eq_true hk
        have hk2 : (x.kind == 8) = true := by simp [hk]
        go_wp2_with fail
        refine (HDR.out _ HY3.out).mono ?_
        rintro e w9 ⟨rfl, y⟩
        have HB9 : Hid (Blk w9 w.heap.size #[.int .i64 x.kind, .int .u64 x.num, .int .i64 x.node, .string x.key, .bool x.was, .string x.old, .int .u64 x.prev, .slice x.na x.nn x.nc, .slice x.ra x.rn x.rc, .slice x.ga x.gn x.gc, .slice x.oa x.om x.oc, .slice x.da x.dn x.dc] 31) := Blk.of HB3.out (y.block _ HB3.out.lt)
        have HY9 : Hid (Below w.heap.size w w9) := ext_trans HY3.out y
        clear y
        go_wp2
        go_meet
        case rel => exact ⟨by rw [HRT4.out, HE.out, HK.out]; simp, HB9.out, HY9.out⟩
      · have HK : Hid (decide (x.kind = 8) = false) := decide_eq_false hk
        have hk2 : (x.kind == 8) = false := beq_eq_false_iff_ne.2 hk
        go_wp2
        go_meet
        case rel => exact ⟨by rw [HRT4.out, HE.out, HK.out]; simp, HB3.out, HY3.out⟩
  case rest =>
  obtain ⟨rfl, hb, y⟩ := hcut
  rename World => w4
  have HB4 : Hid (Blk w4 w.heap.size #[.int .i64 x.kind, .int .u64 x.num, .int .i64 x.node, .string x.key, .bool x.was, .string x.old, .int .u64 x.prev, .slice x.na x.nn x.nc, .slice x.ra x.rn x.rc, .slice x.ga x.gn x.gc, .slice x.oa x.om x.oc, .slice x.da x.dn x.dc] 31) := hb
  have HY4 : Hid _ := y
  clear hb y HB3 HY3 HRT4
  have HL : Hid (rtLists x = (rtReads x && rtNodes x && rtOpens x && rtDones x)) := rfl
  generalize rtReads x = b1 at *
  generalize rtNodes x = b2 at *
  generalize rtOpens x = b3 at *
  generalize rtDones x = b4 at *
  cases b1 <;> cases b2 <;> cases b3 <;> cases b4
  all_goals
    go_wp2
    go_ret
    exact ⟨ret_bool (by rw [HL.out]; rfl), HY4.out⟩

set_option maxRecDepth 100000 in
set_option maxHeartbeats 4000000 in
theorem recRight_any (x : RecV) (w : World) (h : x.At w) : Calls Tryz.prog 9 #[.agg #[.int .i64 x.kind, .int .u64 x.num, .int .i64 x.node, .string x.key, .bool x.was, .string x.old, .int .u64 x.prev, .slice x.na x.nn x.nc, .slice x.ra x.rn x.rc, .slice x.ga x.gn x.gc, .slice x.oa x.om x.oc, .slice x.da x.dn x.dc]] w fun e w' => e = .returned (.bool (rightRec x)) ∧ Below w.heap.size w w' := by
  have HX : Hid (x.At w) := h
  have H1 : Hid (∀ W, Calls Tryz.prog 18 #[.agg #[.int .i64 x.kind, .int .u64 x.num, .int .i64 x.node, .string x.key, .bool x.was, .string x.old, .int .u64 x.prev, .slice x.na x.nn x.nc, .slice x.ra x.rn x.rc, .slice x.ga x.gn x.gc, .slice x.oa x.om x.oc, .slice x.da x.dn x.dc]] W fun e w' => e = .returned (.bool (rtTid x)) ∧ Below W.heap.size W w') := fun W => rightTid_any x W
  have H2 : Hid (∀ W, Calls Tryz.prog 19 #[.agg #[.int .i64 x.kind, .int .u64 x.num, .int .i64 x.node, .string x.key, .bool x.was, .string x.old, .int .u64 x.prev, .slice x.na x.nn x.nc, .slice x.ra x.rn x.rc, .slice x.ga x.gn x.gc, .slice x.oa x.om x.oc, .slice x.da x.dn x.dc]] W fun e w' => e = .returned (.bool (rtOld x)) ∧ Below W.heap.size W w') := fun W => rightOld_any x W HX.out.keyz HX.out.oldz
  have H3 : Hid (∀ W, Below w.heap.size w W → Calls Tryz.prog 20 #[.agg #[.int .i64 x.kind, .int .u64 x.num, .int .i64 x.node, .string x.key, .bool x.was, .string x.old, .int .u64 x.prev, .slice x.na x.nn x.nc, .slice x.ra x.rn x.rc, .slice x.ga x.gn x.gc, .slice x.oa x.om x.oc, .slice x.da x.dn x.dc]] W fun e w' => e = .returned (.bool (rtTurn x)) ∧ Below W.heap.size W w') := fun W hb => rightTurn_any x W (HX.out.below hb)
  have H4 : Hid (∀ W, Below w.heap.size w W → Calls Tryz.prog 21 #[.agg #[.int .i64 x.kind, .int .u64 x.num, .int .i64 x.node, .string x.key, .bool x.was, .string x.old, .int .u64 x.prev, .slice x.na x.nn x.nc, .slice x.ra x.rn x.rc, .slice x.ga x.gn x.gc, .slice x.oa x.om x.oc, .slice x.da x.dn x.dc]] W fun e w' => e = .returned (.bool (rtLists x)) ∧ Below W.heap.size W w') := fun W hb => rightLists_any x W (HX.out.below hb)
  clear h
  have HB : Hid (Blk (w.alloc (.cells #[.int .i64 x.kind, .int .u64 x.num, .int .i64 x.node, .string x.key, .bool x.was, .string x.old, .int .u64 x.prev, .slice x.na x.nn x.nc, .slice x.ra x.rn x.rc, .slice x.ga x.gn x.gc, .slice x.oa x.om x.oc, .slice x.da x.dn x.dc] 31)) w.heap.size #[.int .i64 x.kind, .int .u64 x.num, .int .i64 x.node, .string x.key, .bool x.was, .string x.old, .int .u64 x.prev, .slice x.na x.nn x.nc, .slice x.ra x.rn x.rc, .slice x.ga x.gn x.gc, .slice x.oa x.om x.oc, .slice x.da x.dn x.dc] 31) := Blk.new _ _ _
  have HY : Hid (Below w.heap.size w (w.alloc (.cells #[.int .i64 x.kind, .int .u64 x.num, .int .i64 x.node, .string x.key, .bool x.was, .string x.old, .int .u64 x.prev, .slice x.na x.nn x.nc, .slice x.ra x.rn x.rc, .slice x.ga x.gn x.gc, .slice x.oa x.om x.oc, .slice x.da x.dn x.dc] 31))) := (Below.refl _ _).alloc (Nat.le_refl _) _
  have HR : Hid (rightRec x = (decide (1 ≤ x.kind) && decide (x.kind ≤ 8) && rtTid x && rtOld x && rtTurn x && rtLists x)) := rfl
  generalize rightRec x = R at *
  go_enter Tryz.func9, Tryz.ntmps9
  go_upto_region 1 with fail
  generalize w.alloc (.cells #[.int .i64 x.kind, .int .u64 x.num, .int .i64 x.node, .string x.key, .bool x.was, .string x.old, .int .u64 x.prev, .slice x.na x.nn x.nc, .slice x.ra x.rn x.rc, .slice x.ga x.gn x.gc, .slice x.oa x.om x.oc, .slice x.da x.dn x.dc] 31) = w0 at *
  have z0 : w0.cell? ⟨w.heap.size, 0, none⟩ = some (.int .i64 x.kind) := HB.out.cell 0
  have z1 : w0.cell? ⟨w.heap.size, 1, none⟩ = some (.int .u64 x.num) := HB.out.cell 1
  have z2 : w0.cell? ⟨w.heap.size, 2, none⟩ = some (.int .i64 x.node) := HB.out.cell 2
  have z3 : w0.cell? ⟨w.heap.size, 3, none⟩ = some (.string x.key) := HB.out.cell 3
  have z4 : w0.cell? ⟨w.heap.size, 4, none⟩ = some (.bool x.was) := HB.out.cell 4
  have z5 : w0.cell? ⟨w.heap.size, 5, none⟩ = some (.string x.old) := HB.out.cell 5
  have z6 : w0.cell? ⟨w.heap.size, 6, none⟩ = some (.int .u64 x.prev) := HB.out.cell 6
  have z7 : w0.cell? ⟨w.heap.size, 7, none⟩ = some (.slice x.na x.nn x.nc) := HB.out.cell 7
  have z8 : w0.cell? ⟨w.heap.size, 8, none⟩ = some (.slice x.ra x.rn x.rc) := HB.out.cell 8
  have z9 : w0.cell? ⟨w.heap.size, 9, none⟩ = some (.slice x.ga x.gn x.gc) := HB.out.cell 9
  have z10 : w0.cell? ⟨w.heap.size, 10, none⟩ = some (.slice x.oa x.om x.oc) := HB.out.cell 10
  have z11 : w0.cell? ⟨w.heap.size, 11, none⟩ = some (.slice x.da x.dn x.dc) := HB.out.cell 11
  by_cases h1 : 1 ≤ x.kind
  · by_cases h8 : x.kind ≤ 8
    · have HK : Hid (1 ≤ x.kind ∧ x.kind ≤ 8) := ⟨h1, h8⟩
      go_wp2_with fail
      refine (H1.out _).mono ?_
      rintro e w1 ⟨rfl, y⟩
      clear z0 z1 z2 z3 z4 z5 z6 z7 z8 z9 z10 z11
      have HB1 : Hid (Blk w1 w.heap.size #[.int .i64 x.kind, .int .u64 x.num, .int .i64 x.node, .string x.key, .bool x.was, .string x.old, .int .u64 x.prev, .slice x.na x.nn x.nc, .slice x.ra x.rn x.rc, .slice x.ga x.gn x.gc, .slice x.oa x.om x.oc, .slice x.da x.dn x.dc] 31) := Blk.of HB.out (y.block _ HB.out.lt)
      have HY1 : Hid (Below w.heap.size w w1) := ext_trans HY.out y
      clear y HB HY
      have z0 : w1.cell? ⟨w.heap.size, 0, none⟩ = some (.int .i64 x.kind) := HB1.out.cell 0
      have z1 : w1.cell? ⟨w.heap.size, 1, none⟩ = some (.int .u64 x.num) := HB1.out.cell 1
      have z2 : w1.cell? ⟨w.heap.size, 2, none⟩ = some (.int .i64 x.node) := HB1.out.cell 2
      have z3 : w1.cell? ⟨w.heap.size, 3, none⟩ = some (.string x.key) := HB1.out.cell 3
      have z4 : w1.cell? ⟨w.heap.size, 4, none⟩ = some (.bool x.was) := HB1.out.cell 4
      have z5 : w1.cell? ⟨w.heap.size, 5, none⟩ = some (.string x.old) := HB1.out.cell 5
      have z6 : w1.cell? ⟨w.heap.size, 6, none⟩ = some (.int .u64 x.prev) := HB1.out.cell 6
      have z7 : w1.cell? ⟨w.heap.size, 7, none⟩ = some (.slice x.na x.nn x.nc) := HB1.out.cell 7
      have z8 : w1.cell? ⟨w.heap.size, 8, none⟩ = some (.slice x.ra x.rn x.rc) := HB1.out.cell 8
      have z9 : w1.cell? ⟨w.heap.size, 9, none⟩ = some (.slice x.ga x.gn x.gc) := HB1.out.cell 9
      have z10 : w1.cell? ⟨w.heap.size, 10, none⟩ = some (.slice x.oa x.om x.oc) := HB1.out.cell 10
      have z11 : w1.cell? ⟨w.heap.size, 11, none⟩ = some (.slice x.da x.dn x.dc) := HB1.out.cell 11
      cases hb1 : rtTid x with
      | false =>
        have E1 : Hid (rtTid x = false) := hb1
        clear hb1
        go_wp2
        go_ret
        exact ⟨ret_bool (by rw [HR.out, E1.out]; simp), HY1.out⟩
      | true =>
        have E1 : Hid (rtTid x = true) := hb1
        clear hb1
        go_wp2_with fail
        refine (H2.out _).mono ?_
        rintro e w2 ⟨rfl, y⟩
        clear z0 z1 z2 z3 z4 z5 z6 z7 z8 z9 z10 z11
        have HB2 : Hid (Blk w2 w.heap.size #[.int .i64 x.kind, .int .u64 x.num, .int .i64 x.node, .string x.key, .bool x.was, .string x.old, .int .u64 x.prev, .slice x.na x.nn x.nc, .slice x.ra x.rn x.rc, .slice x.ga x.gn x.gc, .slice x.oa x.om x.oc, .slice x.da x.dn x.dc] 31) := Blk.of HB1.out (y.block _ HB1.out.lt)
        have HY2 : Hid (Below w.heap.size w w2) := ext_trans HY1.out y
        clear y HB1 HY1
        have z0 : w2.cell? ⟨w.heap.size, 0, none⟩ = some (.int .i64 x.kind) := HB2.out.cell 0
        have z1 : w2.cell? ⟨w.heap.size, 1, none⟩ = some (.int .u64 x.num) := HB2.out.cell 1
        have z2 : w2.cell? ⟨w.heap.size, 2, none⟩ = some (.int .i64 x.node) := HB2.out.cell 2
        have z3 : w2.cell? ⟨w.heap.size, 3, none⟩ = some (.string x.key) := HB2.out.cell 3
        have z4 : w2.cell? ⟨w.heap.size, 4, none⟩ = some (.bool x.was) := HB2.out.cell 4
        have z5 : w2.cell? ⟨w.heap.size, 5, none⟩ = some (.string x.old) := HB2.out.cell 5
        have z6 : w2.cell? ⟨w.heap.size, 6, none⟩ = some (.int .u64 x.prev) := HB2.out.cell 6
        have z7 : w2.cell? ⟨w.heap.size, 7, none⟩ = some (.slice x.na x.nn x.nc) := HB2.out.cell 7
        have z8 : w2.cell? ⟨w.heap.size, 8, none⟩ = some (.slice x.ra x.rn x.rc) := HB2.out.cell 8
        have z9 : w2.cell? ⟨w.heap.size, 9, none⟩ = some (.slice x.ga x.gn x.gc) := HB2.out.cell 9
        have z10 : w2.cell? ⟨w.heap.size, 10, none⟩ = some (.slice x.oa x.om x.oc) := HB2.out.cell 10
        have z11 : w2.cell? ⟨w.heap.size, 11, none⟩ = some (.slice x.da x.dn x.dc) := HB2.out.cell 11
        cases hb1 : rtOld x with
        | false =>
          have E2 : Hid (rtOld x = false) := hb1
          clear hb1
          go_wp2
          go_ret
          exact ⟨ret_bool (by rw [HR.out, E2.out]; simp), HY2.out⟩
        | true =>
          have E2 : Hid (rtOld x = true) := hb1
          clear hb1
          go_wp2_with fail
          refine (H3.out _ HY2.out).mono ?_
          rintro e w3 ⟨rfl, y⟩
          clear z0 z1 z2 z3 z4 z5 z6 z7 z8 z9 z10 z11
          have HB3 : Hid (Blk w3 w.heap.size #[.int .i64 x.kind, .int .u64 x.num, .int .i64 x.node, .string x.key, .bool x.was, .string x.old, .int .u64 x.prev, .slice x.na x.nn x.nc, .slice x.ra x.rn x.rc, .slice x.ga x.gn x.gc, .slice x.oa x.om x.oc, .slice x.da x.dn x.dc] 31) := Blk.of HB2.out (y.block _ HB2.out.lt)
          have HY3 : Hid (Below w.heap.size w w3) := ext_trans HY2.out y
          clear y HB2 HY2
          have z0 : w3.cell? ⟨w.heap.size, 0, none⟩ = some (.int .i64 x.kind) := HB3.out.cell 0
          have z1 : w3.cell? ⟨w.heap.size, 1, none⟩ = some (.int .u64 x.num) := HB3.out.cell 1
          have z2 : w3.cell? ⟨w.heap.size, 2, none⟩ = some (.int .i64 x.node) := HB3.out.cell 2
          have z3 : w3.cell? ⟨w.heap.size, 3, none⟩ = some (.string x.key) := HB3.out.cell 3
          have z4 : w3.cell? ⟨w.heap.size, 4, none⟩ = some (.bool x.was) := HB3.out.cell 4
          have z5 : w3.cell? ⟨w.heap.size, 5, none⟩ = some (.string x.old) := HB3.out.cell 5
          have z6 : w3.cell? ⟨w.heap.size, 6, none⟩ = some (.int .u64 x.prev) := HB3.out.cell 6
          have z7 : w3.cell? ⟨w.heap.size, 7, none⟩ = some (.slice x.na x.nn x.nc) := HB3.out.cell 7
          have z8 : w3.cell? ⟨w.heap.size, 8, none⟩ = some (.slice x.ra x.rn x.rc) := HB3.out.cell 8
          have z9 : w3.cell? ⟨w.heap.size, 9, none⟩ = some (.slice x.ga x.gn x.gc) := HB3.out.cell 9
          have z10 : w3.cell? ⟨w.heap.size, 10, none⟩ = some (.slice x.oa x.om x.oc) := HB3.out.cell 10
          have z11 : w3.cell? ⟨w.heap.size, 11, none⟩ = some (.slice x.da x.dn x.dc) := HB3.out.cell 11
          cases hb1 : rtTurn x with
          | false =>
            have E3 : Hid (rtTurn x = false) := hb1
            clear hb1
            go_wp2
            go_ret
            exact ⟨ret_bool (by rw [HR.out, E3.out]; simp), HY3.out⟩
          | true =>
            have E3 : Hid (rtTurn x = true) := hb1
            clear hb1
            go_wp2_with fail
            refine (H4.out _ HY3.out).mono ?_
            rintro e w4 ⟨rfl, y⟩
            have HY4 : Hid (Below w.heap.size w w4) := ext_trans HY3.out y
            clear y
            go_wp2
            go_ret
            exact ⟨ret_bool (by rw [HR.out, E1.out, E2.out, E3.out, decide_eq_true HK.out.1, decide_eq_true HK.out.2]; rfl), HY4.out⟩
    · have HK : Hid (decide (x.kind ≤ 8) = false) := decide_eq_false h8
      go_wp2
      go_ret
      exact ⟨ret_bool (by rw [HR.out, HK.out]; simp), HY.out⟩
  · have HK : Hid (decide (1 ≤ x.kind) = false) := decide_eq_false h1
    go_wp2
    go_ret
    exact ⟨ret_bool (by rw [HR.out, HK.out]; simp), HY.out⟩
end Go.Proofs.YtbgofajldkblmaaGreat

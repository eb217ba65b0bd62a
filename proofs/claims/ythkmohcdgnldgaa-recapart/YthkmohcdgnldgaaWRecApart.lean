/- RecApart: the walk of the law's Go text. -/
import Derived.Test.YthkmohcdgnldgaaRec15
import Derived.Test.YthkmohcdgnldgaaRecOpen
set_option linter.unusedSimpArgs false
set_option linter.unusedVariables false
namespace Go.Proofs.Ythkmohcdgnldgaa
open Go.ChangeShapes Go.WideShapes Go.ChangeAt Go.RowKit

set_option maxRecDepth 100000 in
set_option maxHeartbeats 8000000 in
theorem walk_RecApart (x v : RecV) (w : World) (hx : x.At w) (wx : x.Wf) (hv : v.At w) (wv : v.Wf) : Calls Try.prog 4 #[.agg #[.int .i64 x.kind, .int .u64 x.num, .int .i64 x.node, .string x.key, .bool x.was, .string x.old, .int .u64 x.prev, .slice x.na x.nn x.nc, .slice x.ra x.rn x.rc, .slice x.ga x.gn x.gc, .slice x.oa x.om x.oc, .slice x.da x.dn x.dc], .agg #[.int .i64 v.kind, .int .u64 v.num, .int .i64 v.node, .string v.key, .bool v.was, .string v.old, .int .u64 v.prev, .slice v.na v.nn v.nc, .slice v.ra v.rn v.rc, .slice v.ga v.gn v.gc, .slice v.oa v.om v.oc, .slice v.da v.dn v.dc]] w fun e w' => e = .returned (.bool true) ∧ Below w.heap.size w w' := by
  have HX : Hid (x.At w ∧ x.Wf) := ⟨hx, wx⟩
  have HV : Hid (v.At w ∧ v.Wf) := ⟨hv, wv⟩
  clear hx wx hv wv
  have HA : Hid (Blk ((w.alloc (.cells #[.int .i64 x.kind, .int .u64 x.num, .int .i64 x.node, .string x.key, .bool x.was, .string x.old, .int .u64 x.prev, .slice x.na x.nn x.nc, .slice x.ra x.rn x.rc, .slice x.ga x.gn x.gc, .slice x.oa x.om x.oc, .slice x.da x.dn x.dc] 36)).alloc (.cells #[.int .i64 v.kind, .int .u64 v.num, .int .i64 v.node, .string v.key, .bool v.was, .string v.old, .int .u64 v.prev, .slice v.na v.nn v.nc, .slice v.ra v.rn v.rc, .slice v.ga v.gn v.gc, .slice v.oa v.om v.oc, .slice v.da v.dn v.dc] 36)) w.heap.size #[.int .i64 x.kind, .int .u64 x.num, .int .i64 x.node, .string x.key, .bool x.was, .string x.old, .int .u64 x.prev, .slice x.na x.nn x.nc, .slice x.ra x.rn x.rc, .slice x.ga x.gn x.gc, .slice x.oa x.om x.oc, .slice x.da x.dn x.dc] 36) := (Blk.new _ _ _).alloc _
  have HR : Hid (Blk ((w.alloc (.cells #[.int .i64 x.kind, .int .u64 x.num, .int .i64 x.node, .string x.key, .bool x.was, .string x.old, .int .u64 x.prev, .slice x.na x.nn x.nc, .slice x.ra x.rn x.rc, .slice x.ga x.gn x.gc, .slice x.oa x.om x.oc, .slice x.da x.dn x.dc] 36)).alloc (.cells #[.int .i64 v.kind, .int .u64 v.num, .int .i64 v.node, .string v.key, .bool v.was, .string v.old, .int .u64 v.prev, .slice v.na v.nn v.nc, .slice v.ra v.rn v.rc, .slice v.ga v.gn v.gc, .slice v.oa v.om v.oc, .slice v.da v.dn v.dc] 36)) (w.heap.size + 1) #[.int .i64 v.kind, .int .u64 v.num, .int .i64 v.node, .string v.key, .bool v.was, .string v.old, .int .u64 v.prev, .slice v.na v.nn v.nc, .slice v.ra v.rn v.rc, .slice v.ga v.gn v.gc, .slice v.oa v.om v.oc, .slice v.da v.dn v.dc] 36) := blk_two _ _ _ _ _
  have HY : Hid (Below w.heap.size w ((w.alloc (.cells #[.int .i64 x.kind, .int .u64 x.num, .int .i64 x.node, .string x.key, .bool x.was, .string x.old, .int .u64 x.prev, .slice x.na x.nn x.nc, .slice x.ra x.rn x.rc, .slice x.ga x.gn x.gc, .slice x.oa x.om x.oc, .slice x.da x.dn x.dc] 36)).alloc (.cells #[.int .i64 v.kind, .int .u64 v.num, .int .i64 v.node, .string v.key, .bool v.was, .string v.old, .int .u64 v.prev, .slice v.na v.nn v.nc, .slice v.ra v.rn v.rc, .slice v.ga v.gn v.gc, .slice v.oa v.om v.oc, .slice v.da v.dn v.dc] 36))) := ((Below.refl _ _).alloc (Nat.le_refl _) _).alloc (by simp) _
  go_enter Try.func4, Try.ntmps4
  go_upto_region 1 with fail
  generalize ((w.alloc (.cells #[.int .i64 x.kind, .int .u64 x.num, .int .i64 x.node, .string x.key, .bool x.was, .string x.old, .int .u64 x.prev, .slice x.na x.nn x.nc, .slice x.ra x.rn x.rc, .slice x.ga x.gn x.gc, .slice x.oa x.om x.oc, .slice x.da x.dn x.dc] 36)).alloc (.cells #[.int .i64 v.kind, .int .u64 v.num, .int .i64 v.node, .string v.key, .bool v.was, .string v.old, .int .u64 v.prev, .slice v.na v.nn v.nc, .slice v.ra v.rn v.rc, .slice v.ga v.gn v.gc, .slice v.oa v.om v.oc, .slice v.da v.dn v.dc] 36)) = w0 at *
  go_wp2_with fail
  refine (head11_any _).mono ?_
  rintro e w1 ⟨rfl, y⟩
  have HA' : Hid (Blk w1 w.heap.size #[.int .i64 x.kind, .int .u64 x.num, .int .i64 x.node, .string x.key, .bool x.was, .string x.old, .int .u64 x.prev, .slice x.na x.nn x.nc, .slice x.ra x.rn x.rc, .slice x.ga x.gn x.gc, .slice x.oa x.om x.oc, .slice x.da x.dn x.dc] 36) := Blk.of HA.out (y.block _ HA.out.lt)
  have HR' : Hid (Blk w1 (w.heap.size + 1) #[.int .i64 v.kind, .int .u64 v.num, .int .i64 v.node, .string v.key, .bool v.was, .string v.old, .int .u64 v.prev, .slice v.na v.nn v.nc, .slice v.ra v.rn v.rc, .slice v.ga v.gn v.gc, .slice v.oa v.om v.oc, .slice v.da v.dn v.dc] 36) := Blk.of HR.out (y.block _ HR.out.lt)
  have HY' : Hid (Below w.heap.size w w1) := ext_trans HY.out y
  clear HA HR HY
  have HA := HA'
  have HR := HR'
  have HY := HY'
  clear HA' HR' HY'
  have z0 : w1.cell? ⟨w.heap.size, 0, none⟩ = some (.int .i64 x.kind) := HA.out.cell 0
  have y0 : w1.cell? ⟨w.heap.size + 1, 0, none⟩ = some (.int .i64 v.kind) := HR.out.cell 0
  have z1 : w1.cell? ⟨w.heap.size, 1, none⟩ = some (.int .u64 x.num) := HA.out.cell 1
  have y1 : w1.cell? ⟨w.heap.size + 1, 1, none⟩ = some (.int .u64 v.num) := HR.out.cell 1
  have z2 : w1.cell? ⟨w.heap.size, 2, none⟩ = some (.int .i64 x.node) := HA.out.cell 2
  have y2 : w1.cell? ⟨w.heap.size + 1, 2, none⟩ = some (.int .i64 v.node) := HR.out.cell 2
  have z3 : w1.cell? ⟨w.heap.size, 3, none⟩ = some (.string x.key) := HA.out.cell 3
  have y3 : w1.cell? ⟨w.heap.size + 1, 3, none⟩ = some (.string v.key) := HR.out.cell 3
  have z4 : w1.cell? ⟨w.heap.size, 4, none⟩ = some (.bool x.was) := HA.out.cell 4
  have y4 : w1.cell? ⟨w.heap.size + 1, 4, none⟩ = some (.bool v.was) := HR.out.cell 4
  have z5 : w1.cell? ⟨w.heap.size, 5, none⟩ = some (.string x.old) := HA.out.cell 5
  have y5 : w1.cell? ⟨w.heap.size + 1, 5, none⟩ = some (.string v.old) := HR.out.cell 5
  have z6 : w1.cell? ⟨w.heap.size, 6, none⟩ = some (.int .u64 x.prev) := HA.out.cell 6
  have y6 : w1.cell? ⟨w.heap.size + 1, 6, none⟩ = some (.int .u64 v.prev) := HR.out.cell 6
  have z7 : w1.cell? ⟨w.heap.size, 7, none⟩ = some (.slice x.na x.nn x.nc) := HA.out.cell 7
  have y7 : w1.cell? ⟨w.heap.size + 1, 7, none⟩ = some (.slice v.na v.nn v.nc) := HR.out.cell 7
  have z8 : w1.cell? ⟨w.heap.size, 8, none⟩ = some (.slice x.ra x.rn x.rc) := HA.out.cell 8
  have y8 : w1.cell? ⟨w.heap.size + 1, 8, none⟩ = some (.slice v.ra v.rn v.rc) := HR.out.cell 8
  have z9 : w1.cell? ⟨w.heap.size, 9, none⟩ = some (.slice x.ga x.gn x.gc) := HA.out.cell 9
  have y9 : w1.cell? ⟨w.heap.size + 1, 9, none⟩ = some (.slice v.ga v.gn v.gc) := HR.out.cell 9
  have z10 : w1.cell? ⟨w.heap.size, 10, none⟩ = some (.slice x.oa x.om x.oc) := HA.out.cell 10
  have y10 : w1.cell? ⟨w.heap.size + 1, 10, none⟩ = some (.slice v.oa v.om v.oc) := HR.out.cell 10
  have z11 : w1.cell? ⟨w.heap.size, 11, none⟩ = some (.slice x.da x.dn x.dc) := HA.out.cell 11
  have y11 : w1.cell? ⟨w.heap.size + 1, 11, none⟩ = some (.slice v.da v.dn v.dc) := HR.out.cell 11
  clear y
  go_wp2_with fail
  refine (small11_any x w1 (HX.out.1.below HY.out)).mono ?_
  rintro e w2 ⟨⟨b, rfl⟩, y⟩
  have HA' : Hid (Blk w2 w.heap.size #[.int .i64 x.kind, .int .u64 x.num, .int .i64 x.node, .string x.key, .bool x.was, .string x.old, .int .u64 x.prev, .slice x.na x.nn x.nc, .slice x.ra x.rn x.rc, .slice x.ga x.gn x.gc, .slice x.oa x.om x.oc, .slice x.da x.dn x.dc] 36) := Blk.of HA.out (y.block _ HA.out.lt)
  have HR' : Hid (Blk w2 (w.heap.size + 1) #[.int .i64 v.kind, .int .u64 v.num, .int .i64 v.node, .string v.key, .bool v.was, .string v.old, .int .u64 v.prev, .slice v.na v.nn v.nc, .slice v.ra v.rn v.rc, .slice v.ga v.gn v.gc, .slice v.oa v.om v.oc, .slice v.da v.dn v.dc] 36) := Blk.of HR.out (y.block _ HR.out.lt)
  have HY' : Hid (Below w.heap.size w w2) := ext_trans HY.out y
  clear HA HR HY z0 y0 z1 y1 z2 y2 z3 y3 z4 y4 z5 y5 z6 y6 z7 y7 z8 y8 z9 y9 z10 y10 z11 y11
  have HA := HA'
  have HR := HR'
  have HY := HY'
  clear HA' HR' HY'
  have z0 : w2.cell? ⟨w.heap.size, 0, none⟩ = some (.int .i64 x.kind) := HA.out.cell 0
  have y0 : w2.cell? ⟨w.heap.size + 1, 0, none⟩ = some (.int .i64 v.kind) := HR.out.cell 0
  have z1 : w2.cell? ⟨w.heap.size, 1, none⟩ = some (.int .u64 x.num) := HA.out.cell 1
  have y1 : w2.cell? ⟨w.heap.size + 1, 1, none⟩ = some (.int .u64 v.num) := HR.out.cell 1
  have z2 : w2.cell? ⟨w.heap.size, 2, none⟩ = some (.int .i64 x.node) := HA.out.cell 2
  have y2 : w2.cell? ⟨w.heap.size + 1, 2, none⟩ = some (.int .i64 v.node) := HR.out.cell 2
  have z3 : w2.cell? ⟨w.heap.size, 3, none⟩ = some (.string x.key) := HA.out.cell 3
  have y3 : w2.cell? ⟨w.heap.size + 1, 3, none⟩ = some (.string v.key) := HR.out.cell 3
  have z4 : w2.cell? ⟨w.heap.size, 4, none⟩ = some (.bool x.was) := HA.out.cell 4
  have y4 : w2.cell? ⟨w.heap.size + 1, 4, none⟩ = some (.bool v.was) := HR.out.cell 4
  have z5 : w2.cell? ⟨w.heap.size, 5, none⟩ = some (.string x.old) := HA.out.cell 5
  have y5 : w2.cell? ⟨w.heap.size + 1, 5, none⟩ = some (.string v.old) := HR.out.cell 5
  have z6 : w2.cell? ⟨w.heap.size, 6, none⟩ = some (.int .u64 x.prev) := HA.out.cell 6
  have y6 : w2.cell? ⟨w.heap.size + 1, 6, none⟩ = some (.int .u64 v.prev) := HR.out.cell 6
  have z7 : w2.cell? ⟨w.heap.size, 7, none⟩ = some (.slice x.na x.nn x.nc) := HA.out.cell 7
  have y7 : w2.cell? ⟨w.heap.size + 1, 7, none⟩ = some (.slice v.na v.nn v.nc) := HR.out.cell 7
  have z8 : w2.cell? ⟨w.heap.size, 8, none⟩ = some (.slice x.ra x.rn x.rc) := HA.out.cell 8
  have y8 : w2.cell? ⟨w.heap.size + 1, 8, none⟩ = some (.slice v.ra v.rn v.rc) := HR.out.cell 8
  have z9 : w2.cell? ⟨w.heap.size, 9, none⟩ = some (.slice x.ga x.gn x.gc) := HA.out.cell 9
  have y9 : w2.cell? ⟨w.heap.size + 1, 9, none⟩ = some (.slice v.ga v.gn v.gc) := HR.out.cell 9
  have z10 : w2.cell? ⟨w.heap.size, 10, none⟩ = some (.slice x.oa x.om x.oc) := HA.out.cell 10
  have y10 : w2.cell? ⟨w.heap.size + 1, 10, none⟩ = some (.slice v.oa v.om v.oc) := HR.out.cell 10
  have z11 : w2.cell? ⟨w.heap.size, 11, none⟩ = some (.slice x.da x.dn x.dc) := HA.out.cell 11
  have y11 : w2.cell? ⟨w.heap.size + 1, 11, none⟩ = some (.slice v.da v.dn v.dc) := HR.out.cell 11
  clear y
  cases b with
  | false =>
    go_wp2
    go_ret
    exact ⟨rfl, HY.out⟩
  | true =>
    go_wp2_with fail
    refine (small11_any v w2 (HV.out.1.below HY.out)).mono ?_
    rintro e w3 ⟨⟨b, rfl⟩, y⟩
    have HA' : Hid (Blk w3 w.heap.size #[.int .i64 x.kind, .int .u64 x.num, .int .i64 x.node, .string x.key, .bool x.was, .string x.old, .int .u64 x.prev, .slice x.na x.nn x.nc, .slice x.ra x.rn x.rc, .slice x.ga x.gn x.gc, .slice x.oa x.om x.oc, .slice x.da x.dn x.dc] 36) := Blk.of HA.out (y.block _ HA.out.lt)
    have HR' : Hid (Blk w3 (w.heap.size + 1) #[.int .i64 v.kind, .int .u64 v.num, .int .i64 v.node, .string v.key, .bool v.was, .string v.old, .int .u64 v.prev, .slice v.na v.nn v.nc, .slice v.ra v.rn v.rc, .slice v.ga v.gn v.gc, .slice v.oa v.om v.oc, .slice v.da v.dn v.dc] 36) := Blk.of HR.out (y.block _ HR.out.lt)
    have HY' : Hid (Below w.heap.size w w3) := ext_trans HY.out y
    clear HA HR HY z0 y0 z1 y1 z2 y2 z3 y3 z4 y4 z5 y5 z6 y6 z7 y7 z8 y8 z9 y9 z10 y10 z11 y11
    have HA := HA'
    have HR := HR'
    have HY := HY'
    clear HA' HR' HY'
    have z0 : w3.cell? ⟨w.heap.size, 0, none⟩ = some (.int .i64 x.kind) := HA.out.cell 0
    have y0 : w3.cell? ⟨w.heap.size + 1, 0, none⟩ = some (.int .i64 v.kind) := HR.out.cell 0
    have z1 : w3.cell? ⟨w.heap.size, 1, none⟩ = some (.int .u64 x.num) := HA.out.cell 1
    have y1 : w3.cell? ⟨w.heap.size + 1, 1, none⟩ = some (.int .u64 v.num) := HR.out.cell 1
    have z2 : w3.cell? ⟨w.heap.size, 2, none⟩ = some (.int .i64 x.node) := HA.out.cell 2
    have y2 : w3.cell? ⟨w.heap.size + 1, 2, none⟩ = some (.int .i64 v.node) := HR.out.cell 2
    have z3 : w3.cell? ⟨w.heap.size, 3, none⟩ = some (.string x.key) := HA.out.cell 3
    have y3 : w3.cell? ⟨w.heap.size + 1, 3, none⟩ = some (.string v.key) := HR.out.cell 3
    have z4 : w3.cell? ⟨w.heap.size, 4, none⟩ = some (.bool x.was) := HA.out.cell 4
    have y4 : w3.cell? ⟨w.heap.size + 1, 4, none⟩ = some (.bool v.was) := HR.out.cell 4
    have z5 : w3.cell? ⟨w.heap.size, 5, none⟩ = some (.string x.old) := HA.out.cell 5
    have y5 : w3.cell? ⟨w.heap.size + 1, 5, none⟩ = some (.string v.old) := HR.out.cell 5
    have z6 : w3.cell? ⟨w.heap.size, 6, none⟩ = some (.int .u64 x.prev) := HA.out.cell 6
    have y6 : w3.cell? ⟨w.heap.size + 1, 6, none⟩ = some (.int .u64 v.prev) := HR.out.cell 6
    have z7 : w3.cell? ⟨w.heap.size, 7, none⟩ = some (.slice x.na x.nn x.nc) := HA.out.cell 7
    have y7 : w3.cell? ⟨w.heap.size + 1, 7, none⟩ = some (.slice v.na v.nn v.nc) := HR.out.cell 7
    have z8 : w3.cell? ⟨w.heap.size, 8, none⟩ = some (.slice x.ra x.rn x.rc) := HA.out.cell 8
    have y8 : w3.cell? ⟨w.heap.size + 1, 8, none⟩ = some (.slice v.ra v.rn v.rc) := HR.out.cell 8
    have z9 : w3.cell? ⟨w.heap.size, 9, none⟩ = some (.slice x.ga x.gn x.gc) := HA.out.cell 9
    have y9 : w3.cell? ⟨w.heap.size + 1, 9, none⟩ = some (.slice v.ga v.gn v.gc) := HR.out.cell 9
    have z10 : w3.cell? ⟨w.heap.size, 10, none⟩ = some (.slice x.oa x.om x.oc) := HA.out.cell 10
    have y10 : w3.cell? ⟨w.heap.size + 1, 10, none⟩ = some (.slice v.oa v.om v.oc) := HR.out.cell 10
    have z11 : w3.cell? ⟨w.heap.size, 11, none⟩ = some (.slice x.da x.dn x.dc) := HA.out.cell 11
    have y11 : w3.cell? ⟨w.heap.size + 1, 11, none⟩ = some (.slice v.da v.dn v.dc) := HR.out.cell 11
    clear y
    cases b with
    | false =>
      go_wp2
      go_ret
      exact ⟨rfl, HY.out⟩
    | true =>
      go_wp2_with fail
      refine (encQ_any x w3 (HX.out.1.below HY.out) HX.out.2).mono ?_
      rintro e w4 ⟨he1, y⟩
      have HA' : Hid (Blk w4 w.heap.size #[.int .i64 x.kind, .int .u64 x.num, .int .i64 x.node, .string x.key, .bool x.was, .string x.old, .int .u64 x.prev, .slice x.na x.nn x.nc, .slice x.ra x.rn x.rc, .slice x.ga x.gn x.gc, .slice x.oa x.om x.oc, .slice x.da x.dn x.dc] 36) := Blk.of HA.out (y.block _ HA.out.lt)
      have HR' : Hid (Blk w4 (w.heap.size + 1) #[.int .i64 v.kind, .int .u64 v.num, .int .i64 v.node, .string v.key, .bool v.was, .string v.old, .int .u64 v.prev, .slice v.na v.nn v.nc, .slice v.ra v.rn v.rc, .slice v.ga v.gn v.gc, .slice v.oa v.om v.oc, .slice v.da v.dn v.dc] 36) := Blk.of HR.out (y.block _ HR.out.lt)
      have HY' : Hid (Below w.heap.size w w4) := ext_trans HY.out y
      clear HA HR HY z0 y0 z1 y1 z2 y2 z3 y3 z4 y4 z5 y5 z6 y6 z7 y7 z8 y8 z9 y9 z10 y10 z11 y11
      have HA := HA'
      have HR := HR'
      have HY := HY'
      clear HA' HR' HY'
      have z0 : w4.cell? ⟨w.heap.size, 0, none⟩ = some (.int .i64 x.kind) := HA.out.cell 0
      have y0 : w4.cell? ⟨w.heap.size + 1, 0, none⟩ = some (.int .i64 v.kind) := HR.out.cell 0
      have z1 : w4.cell? ⟨w.heap.size, 1, none⟩ = some (.int .u64 x.num) := HA.out.cell 1
      have y1 : w4.cell? ⟨w.heap.size + 1, 1, none⟩ = some (.int .u64 v.num) := HR.out.cell 1
      have z2 : w4.cell? ⟨w.heap.size, 2, none⟩ = some (.int .i64 x.node) := HA.out.cell 2
      have y2 : w4.cell? ⟨w.heap.size + 1, 2, none⟩ = some (.int .i64 v.node) := HR.out.cell 2
      have z3 : w4.cell? ⟨w.heap.size, 3, none⟩ = some (.string x.key) := HA.out.cell 3
      have y3 : w4.cell? ⟨w.heap.size + 1, 3, none⟩ = some (.string v.key) := HR.out.cell 3
      have z4 : w4.cell? ⟨w.heap.size, 4, none⟩ = some (.bool x.was) := HA.out.cell 4
      have y4 : w4.cell? ⟨w.heap.size + 1, 4, none⟩ = some (.bool v.was) := HR.out.cell 4
      have z5 : w4.cell? ⟨w.heap.size, 5, none⟩ = some (.string x.old) := HA.out.cell 5
      have y5 : w4.cell? ⟨w.heap.size + 1, 5, none⟩ = some (.string v.old) := HR.out.cell 5
      have z6 : w4.cell? ⟨w.heap.size, 6, none⟩ = some (.int .u64 x.prev) := HA.out.cell 6
      have y6 : w4.cell? ⟨w.heap.size + 1, 6, none⟩ = some (.int .u64 v.prev) := HR.out.cell 6
      have z7 : w4.cell? ⟨w.heap.size, 7, none⟩ = some (.slice x.na x.nn x.nc) := HA.out.cell 7
      have y7 : w4.cell? ⟨w.heap.size + 1, 7, none⟩ = some (.slice v.na v.nn v.nc) := HR.out.cell 7
      have z8 : w4.cell? ⟨w.heap.size, 8, none⟩ = some (.slice x.ra x.rn x.rc) := HA.out.cell 8
      have y8 : w4.cell? ⟨w.heap.size + 1, 8, none⟩ = some (.slice v.ra v.rn v.rc) := HR.out.cell 8
      have z9 : w4.cell? ⟨w.heap.size, 9, none⟩ = some (.slice x.ga x.gn x.gc) := HA.out.cell 9
      have y9 : w4.cell? ⟨w.heap.size + 1, 9, none⟩ = some (.slice v.ga v.gn v.gc) := HR.out.cell 9
      have z10 : w4.cell? ⟨w.heap.size, 10, none⟩ = some (.slice x.oa x.om x.oc) := HA.out.cell 10
      have y10 : w4.cell? ⟨w.heap.size + 1, 10, none⟩ = some (.slice v.oa v.om v.oc) := HR.out.cell 10
      have z11 : w4.cell? ⟨w.heap.size, 11, none⟩ = some (.slice x.da x.dn x.dc) := HA.out.cell 11
      have y11 : w4.cell? ⟨w.heap.size + 1, 11, none⟩ = some (.slice v.da v.dn v.dc) := HR.out.cell 11
      have HW1 : Hid (Below w3.heap.size w3 w4) := y
      clear y
      rcases he1 with ⟨r1, l1, a1, c1, rfl, s1⟩ | ⟨er, rfl, q1⟩
      · have R1 : Hid (rightRec x = true) := r1
        have S1 : Hid (Src w4 (.slice a1 (recBytes x).length c1) (recBytes x)) := s1
        clear r1 l1 s1 HW1
        obtain ⟨B1, hB1⟩ : ∃ l, l = recBytes x := ⟨_, rfl⟩
        have E1 : Hid (B1 = recBytes x) := hB1
        rw [← hB1] at S1 ⊢
        clear hB1
        obtain ⟨n1, hn1⟩ : ∃ n, n = B1.length := ⟨_, rfl⟩
        rw [← hn1] at S1 ⊢
        clear hn1
        go_wp2_with fail
        refine (encQ_any v w4 (HV.out.1.below HY.out) HV.out.2).mono ?_
        rintro e w5 ⟨he2, y⟩
        have HA' : Hid (Blk w5 w.heap.size #[.int .i64 x.kind, .int .u64 x.num, .int .i64 x.node, .string x.key, .bool x.was, .string x.old, .int .u64 x.prev, .slice x.na x.nn x.nc, .slice x.ra x.rn x.rc, .slice x.ga x.gn x.gc, .slice x.oa x.om x.oc, .slice x.da x.dn x.dc] 36) := Blk.of HA.out (y.block _ HA.out.lt)
        have HR' : Hid (Blk w5 (w.heap.size + 1) #[.int .i64 v.kind, .int .u64 v.num, .int .i64 v.node, .string v.key, .bool v.was, .string v.old, .int .u64 v.prev, .slice v.na v.nn v.nc, .slice v.ra v.rn v.rc, .slice v.ga v.gn v.gc, .slice v.oa v.om v.oc, .slice v.da v.dn v.dc] 36) := Blk.of HR.out (y.block _ HR.out.lt)
        have HY' : Hid (Below w.heap.size w w5) := ext_trans HY.out y
        clear HA HR HY z0 y0 z1 y1 z2 y2 z3 y3 z4 y4 z5 y5 z6 y6 z7 y7 z8 y8 z9 y9 z10 y10 z11 y11
        have HA := HA'
        have HR := HR'
        have HY := HY'
        clear HA' HR' HY'
        have z0 : w5.cell? ⟨w.heap.size, 0, none⟩ = some (.int .i64 x.kind) := HA.out.cell 0
        have y0 : w5.cell? ⟨w.heap.size + 1, 0, none⟩ = some (.int .i64 v.kind) := HR.out.cell 0
        have z1 : w5.cell? ⟨w.heap.size, 1, none⟩ = some (.int .u64 x.num) := HA.out.cell 1
        have y1 : w5.cell? ⟨w.heap.size + 1, 1, none⟩ = some (.int .u64 v.num) := HR.out.cell 1
        have z2 : w5.cell? ⟨w.heap.size, 2, none⟩ = some (.int .i64 x.node) := HA.out.cell 2
        have y2 : w5.cell? ⟨w.heap.size + 1, 2, none⟩ = some (.int .i64 v.node) := HR.out.cell 2
        have z3 : w5.cell? ⟨w.heap.size, 3, none⟩ = some (.string x.key) := HA.out.cell 3
        have y3 : w5.cell? ⟨w.heap.size + 1, 3, none⟩ = some (.string v.key) := HR.out.cell 3
        have z4 : w5.cell? ⟨w.heap.size, 4, none⟩ = some (.bool x.was) := HA.out.cell 4
        have y4 : w5.cell? ⟨w.heap.size + 1, 4, none⟩ = some (.bool v.was) := HR.out.cell 4
        have z5 : w5.cell? ⟨w.heap.size, 5, none⟩ = some (.string x.old) := HA.out.cell 5
        have y5 : w5.cell? ⟨w.heap.size + 1, 5, none⟩ = some (.string v.old) := HR.out.cell 5
        have z6 : w5.cell? ⟨w.heap.size, 6, none⟩ = some (.int .u64 x.prev) := HA.out.cell 6
        have y6 : w5.cell? ⟨w.heap.size + 1, 6, none⟩ = some (.int .u64 v.prev) := HR.out.cell 6
        have z7 : w5.cell? ⟨w.heap.size, 7, none⟩ = some (.slice x.na x.nn x.nc) := HA.out.cell 7
        have y7 : w5.cell? ⟨w.heap.size + 1, 7, none⟩ = some (.slice v.na v.nn v.nc) := HR.out.cell 7
        have z8 : w5.cell? ⟨w.heap.size, 8, none⟩ = some (.slice x.ra x.rn x.rc) := HA.out.cell 8
        have y8 : w5.cell? ⟨w.heap.size + 1, 8, none⟩ = some (.slice v.ra v.rn v.rc) := HR.out.cell 8
        have z9 : w5.cell? ⟨w.heap.size, 9, none⟩ = some (.slice x.ga x.gn x.gc) := HA.out.cell 9
        have y9 : w5.cell? ⟨w.heap.size + 1, 9, none⟩ = some (.slice v.ga v.gn v.gc) := HR.out.cell 9
        have z10 : w5.cell? ⟨w.heap.size, 10, none⟩ = some (.slice x.oa x.om x.oc) := HA.out.cell 10
        have y10 : w5.cell? ⟨w.heap.size + 1, 10, none⟩ = some (.slice v.oa v.om v.oc) := HR.out.cell 10
        have z11 : w5.cell? ⟨w.heap.size, 11, none⟩ = some (.slice x.da x.dn x.dc) := HA.out.cell 11
        have y11 : w5.cell? ⟨w.heap.size + 1, 11, none⟩ = some (.slice v.da v.dn v.dc) := HR.out.cell 11
        have S1' : Hid (Src w5 (.slice a1 n1 c1) B1) := S1.out.below y
        clear y S1
        rcases he2 with ⟨r2, l2, a2, c2, rfl, s2⟩ | ⟨er, rfl, q2⟩
        · have R2 : Hid (rightRec v = true) := r2
          have S2 : Hid (Src w5 (.slice a2 (recBytes v).length c2) (recBytes v)) := s2
          clear r2 l2 s2
          obtain ⟨B2, hB2⟩ : ∃ l, l = recBytes v := ⟨_, rfl⟩
          have E2 : Hid (B2 = recBytes v) := hB2
          rw [← hB2] at S2 ⊢
          clear hB2
          obtain ⟨n2, hn2⟩ : ∃ n, n = B2.length := ⟨_, rfl⟩
          rw [← hn2] at S2 ⊢
          clear hn2
          go_upto_region 9 with fail
          clear z0 y0 z1 y1 z2 y2 z3 y3 z4 y4 z5 y5 z6 y6 z7 y7 z8 y8 z9 y9 z10 y10 z11 y11
          refine wp_region_ext (by kernel_rfl) ?_
          haveI nA := cls_ext w5.drew
          have z0 := cellX (W0 := w5.drew) (show w5.drew.cell? ⟨w.heap.size, 0, none⟩ = some _ from HA.out.cell 0)
          have y0 := cellX (W0 := w5.drew) (show w5.drew.cell? ⟨w.heap.size + 1, 0, none⟩ = some _ from HR.out.cell 0)
          have z1 := cellX (W0 := w5.drew) (show w5.drew.cell? ⟨w.heap.size, 1, none⟩ = some _ from HA.out.cell 1)
          have y1 := cellX (W0 := w5.drew) (show w5.drew.cell? ⟨w.heap.size + 1, 1, none⟩ = some _ from HR.out.cell 1)
          have z2 := cellX (W0 := w5.drew) (show w5.drew.cell? ⟨w.heap.size, 2, none⟩ = some _ from HA.out.cell 2)
          have y2 := cellX (W0 := w5.drew) (show w5.drew.cell? ⟨w.heap.size + 1, 2, none⟩ = some _ from HR.out.cell 2)
          have z3 := cellX (W0 := w5.drew) (show w5.drew.cell? ⟨w.heap.size, 3, none⟩ = some _ from HA.out.cell 3)
          have y3 := cellX (W0 := w5.drew) (show w5.drew.cell? ⟨w.heap.size + 1, 3, none⟩ = some _ from HR.out.cell 3)
          have z4 := cellX (W0 := w5.drew) (show w5.drew.cell? ⟨w.heap.size, 4, none⟩ = some _ from HA.out.cell 4)
          have y4 := cellX (W0 := w5.drew) (show w5.drew.cell? ⟨w.heap.size + 1, 4, none⟩ = some _ from HR.out.cell 4)
          have z5 := cellX (W0 := w5.drew) (show w5.drew.cell? ⟨w.heap.size, 5, none⟩ = some _ from HA.out.cell 5)
          have y5 := cellX (W0 := w5.drew) (show w5.drew.cell? ⟨w.heap.size + 1, 5, none⟩ = some _ from HR.out.cell 5)
          have z6 := cellX (W0 := w5.drew) (show w5.drew.cell? ⟨w.heap.size, 6, none⟩ = some _ from HA.out.cell 6)
          have y6 := cellX (W0 := w5.drew) (show w5.drew.cell? ⟨w.heap.size + 1, 6, none⟩ = some _ from HR.out.cell 6)
          have z7 := cellX (W0 := w5.drew) (show w5.drew.cell? ⟨w.heap.size, 7, none⟩ = some _ from HA.out.cell 7)
          have y7 := cellX (W0 := w5.drew) (show w5.drew.cell? ⟨w.heap.size + 1, 7, none⟩ = some _ from HR.out.cell 7)
          have z8 := cellX (W0 := w5.drew) (show w5.drew.cell? ⟨w.heap.size, 8, none⟩ = some _ from HA.out.cell 8)
          have y8 := cellX (W0 := w5.drew) (show w5.drew.cell? ⟨w.heap.size + 1, 8, none⟩ = some _ from HR.out.cell 8)
          have z9 := cellX (W0 := w5.drew) (show w5.drew.cell? ⟨w.heap.size, 9, none⟩ = some _ from HA.out.cell 9)
          have y9 := cellX (W0 := w5.drew) (show w5.drew.cell? ⟨w.heap.size + 1, 9, none⟩ = some _ from HR.out.cell 9)
          have z10 := cellX (W0 := w5.drew) (show w5.drew.cell? ⟨w.heap.size, 10, none⟩ = some _ from HA.out.cell 10)
          have y10 := cellX (W0 := w5.drew) (show w5.drew.cell? ⟨w.heap.size + 1, 10, none⟩ = some _ from HR.out.cell 10)
          have z11 := cellX (W0 := w5.drew) (show w5.drew.cell? ⟨w.heap.size, 11, none⟩ = some _ from HA.out.cell 11)
          have y11 := cellX (W0 := w5.drew) (show w5.drew.cell? ⟨w.heap.size + 1, 11, none⟩ = some _ from HR.out.cell 11)
          have u1 := Src.strE (W0 := w5.drew) (S1'.out.below (Below.drew (Below.refl _ _)))
          have u2 := Src.strE (W0 := w5.drew) (S2.out.below (Below.drew (Below.refl _ _)))
          have hq : ((⟨B1.toArray⟩ : ByteArray).toList == (⟨B2.toArray⟩ : ByteArray).toList) = decide (B1 = B2) := by
            rw [beq_str]
            exact decide_eq_decide.2 ⟨fun e => by have := congrArg (fun s : ByteArray => s.data.toList) e; simpa using this, fun e => by rw [e]⟩
          have HDD : Hid (decide (B1 = B2) = true ↔ x.q = v.q) := by
            show _ ↔ _
            rw [decide_eq_true_eq, E1.out, E2.out]
            exact ⟨fun e => (rec_apart R1.out HX.out.2 R2.out HV.out.2 (r := []) (by rw [e, List.append_nil])).1, fun e => by rw [recBytes_q, recBytes_q, e]⟩
          have HDL : Hid ((B1 == B2) = decide (B1 = B2)) := by
            show _ = _
            by_cases e : B1 = B2 <;> simp [e]
          generalize decide (B1 = B2) = D at *
          have HYD : Hid (Below w.heap.size w w5.drew) := Below.drew HY.out
          refine wpAnyH_seg (by kernel_rfl) (fun _ _ _ h => h) [0, 1, 2, 3, 4, 5, 6] 3 _ _ _ (Ext.refl _) (by kernel_rfl) ?_
          simp only [opsAt, List.getElem?_toArray, List.getElem?_cons_zero, List.getElem?_cons_succ, List.cons_append, List.nil_append]
          repeat (go_big_quiet_step (fail))
          refine wpQuiet_nil ?_
          clear nA z0 y0 z1 y1 z2 y2 z3 y3 z4 y4 z5 y5 z6 y6 z7 y7 z8 y8 z9 y9 z10 y10 z11 y11 u1 u2 hq
          refine wpAnyH_callE (i := 7) (fuel := 2) 42 rfl (by kernel_rfl) rfl (Ext.refl _) (by kernel_rfl) (f := 10) (args := #[.agg #[.int .i64 x.kind, .int .u64 x.num, .int .i64 x.node, .string x.key, .bool x.was, .string x.old, .int .u64 x.prev, .slice x.na x.nn x.nc, .slice x.ra x.rn x.rc, .slice x.ga x.gn x.gc, .slice x.oa x.om x.oc, .slice x.da x.dn x.dc], .agg #[.int .i64 v.kind, .int .u64 v.num, .int .i64 v.node, .string v.key, .bool v.was, .string v.old, .int .u64 v.prev, .slice v.na v.nn v.nc, .slice v.ra v.rn v.rc, .slice v.ga v.gn v.gc, .slice v.oa v.om v.oc, .slice v.da v.dn v.dc]]) (by kernel_rfl) (same11_any x v w5.drew (HX.out.1.below HYD.out) (HV.out.1.below HYD.out)) ?_
          rintro e w6 ⟨B, rfl, hB, y⟩
          refine ⟨_, rfl, y, ?_⟩
          have HY6 : Hid (Below w.heap.size w w6) := ext_trans HYD.out y
          have HDB : Hid (D = B) := by
            show D = B
            have h1 := HDD.out
            cases D <;> cases B <;> simp_all
          clear y hB HDD HYD
          simp only [Act.put, List.setIfInBounds_toArray, List.set_cons_succ, List.set_cons_zero]
          haveI nB := cls_ext w6
          refine wpAnyH_seg (by kernel_rfl) (fun _ _ _ h => h) [8, 9] 0 _ _ _ (Ext.refl _) (by kernel_rfl) ?_
          simp only [opsAt, List.getElem?_toArray, List.getElem?_cons_zero, List.getElem?_cons_succ, List.cons_append, List.nil_append]
          repeat (go_big_quiet_step (fail))
          refine wpQuiet_nil ?_
          clear nB
          refine wpAnyH_done (by kernel_rfl) (NoPanic.normal ?_) 0
          go_wp2
          go_ret
          exact ⟨ret_bool (by rw [HDL.out, HDB.out]; simp), HY6.out⟩
        · have her : er = 3 ∨ er = 1 := by rcases q2 with q | q <;> simp [q]
          have hne : ¬ er = 0 := by omega
          have hne2 : (er != 0) = true := by simp [hne]
          have hne3 : (er == 0) = false := by simp [hne]
          clear q2 her
          go_wp2
          go_ret
          exact ⟨rfl, HY.out⟩
      · have her : er = 3 ∨ er = 1 := by rcases q1 with q | q <;> simp [q]
        have hne : ¬ er = 0 := by omega
        have hne2 : (er != 0) = true := by simp [hne]
        have hne3 : (er == 0) = false := by simp [hne]
        clear q1 her HW1
        go_wp2_with fail
        refine (encQ_any v w4 (HV.out.1.below HY.out) HV.out.2).mono ?_
        rintro e w5 ⟨he2, y⟩
        have HY5 : Hid (Below w.heap.size w w5) := ext_trans HY.out y
        clear y HY
        obtain ⟨a2, n2, c2, er2, rfl⟩ : ∃ a n c er, e = .returned (.tuple #[.slice a n c, .int .i64 er]) := by
          rcases he2 with ⟨_, _, a2, c2, rfl, _⟩ | ⟨er, rfl, _⟩
          · exact ⟨_, _, _, _, rfl⟩
          · exact ⟨_, _, _, _, rfl⟩
        clear he2
        go_wp2
        go_ret
        exact ⟨rfl, HY5.out⟩
end Go.Proofs.Ythkmohcdgnldgaa

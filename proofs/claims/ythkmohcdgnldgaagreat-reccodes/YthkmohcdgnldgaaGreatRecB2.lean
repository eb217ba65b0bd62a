/- rec: the law's own bytes. Own lemmas, no statement. -/
import Derived.Test.YthkmohcdgnldgaaGreatRecB1
import Derived.Test.YthkmohcdgnldgaaGreatSrcSeg
set_option linter.unusedSimpArgs false
set_option linter.unusedVariables false
namespace Go.Proofs.YthkmohcdgnldgaaGreat
open Go.ChangeShapes Go.WideShapes Go.ChangeAt Go.RowKit

set_option maxRecDepth 100000 in
set_option maxHeartbeats 8000000 in
theorem bytes11_4 (num : Int) (node : Int) (key : ByteArray) (was : Bool) (old : ByteArray) (prev : Int) (na : Option Addr) (nn : Nat) (nc : Nat) (ra : Option Addr) (rn : Nat) (rc : Nat) (ga : Option Addr) (gn : Nat) (gc : Nat) (oa : Option Addr) (om : Nat) (oc : Nat) (da : Option Addr) (dn : Nat) (dc : Nat) (ns : List Int) (rs : List ByteArray) (gs : List ChgV) (os : List OpenV) (ds : List DoneV) (w : World) (hnum : 0 ≤ num ∧ num < 18446744073709551616) (hlen : ([4] ++ tidB num node).length < 100000000) :
    Calls Tryz.prog 11 #[.agg #[.int .i64 4, .int .u64 num, .int .i64 node, .string key, .bool was, .string old, .int .u64 prev, .slice na nn nc, .slice ra rn rc, .slice ga gn gc, .slice oa om oc, .slice da dn dc]] w (BytesP w ([4] ++ tidB num node)) := by
  have HLEN : Hid (([4] ++ tidB num node).length < 100000000) := hlen
  have HB : Hid (Blk (w.alloc (.cells #[.int .i64 4, .int .u64 num, .int .i64 node, .string key, .bool was, .string old, .int .u64 prev, .slice na nn nc, .slice ra rn rc, .slice ga gn gc, .slice oa om oc, .slice da dn dc] 31)) w.heap.size #[.int .i64 4, .int .u64 num, .int .i64 node, .string key, .bool was, .string old, .int .u64 prev, .slice na nn nc, .slice ra rn rc, .slice ga gn gc, .slice oa om oc, .slice da dn dc] 31) := Blk.new _ _ _
  have HY : Hid (Below w.heap.size w (w.alloc (.cells #[.int .i64 4, .int .u64 num, .int .i64 node, .string key, .bool was, .string old, .int .u64 prev, .slice na nn nc, .slice ra rn rc, .slice ga gn gc, .slice oa om oc, .slice da dn dc] 31))) := (Below.refl _ _).alloc (Nat.le_refl _) _
  go_enter Tryz.func11, Tryz.ntmps11
  go_upto_region 1 with fail
  generalize (w.alloc (.cells #[.int .i64 4, .int .u64 num, .int .i64 node, .string key, .bool was, .string old, .int .u64 prev, .slice na nn nc, .slice ra rn rc, .slice ga gn gc, .slice oa om oc, .slice da dn dc] 31)) = w0 at *
  have z0 : w0.cell? ⟨w.heap.size, 0, none⟩ = some (.int .i64 4) := HB.out.cell 0
  have z1 : w0.cell? ⟨w.heap.size, 1, none⟩ = some (.int .u64 num) := HB.out.cell 1
  have z2 : w0.cell? ⟨w.heap.size, 2, none⟩ = some (.int .i64 node) := HB.out.cell 2
  have HSB : Hid (Src (w0.alloc (.cells #[.int .u8 4] 5)) (.slice (some ⟨w0.heap.size, 0, none⟩) 1 1) [4]) := Blk.src (l := [4]) (k := 1) (c := 1) (Blk.new _ _ _) (by decide) (by decide) (by unfold maxLen; omega)
  have HBB : Hid (Blk (w0.alloc (.cells #[.int .u8 4] 5)) w.heap.size #[.int .i64 4, .int .u64 num, .int .i64 node, .string key, .bool was, .string old, .int .u64 prev, .slice na nn nc, .slice ra rn rc, .slice ga gn gc, .slice oa om oc, .slice da dn dc] 31) := HB.out.alloc _
  have HYB : Hid (Below w.heap.size w (w0.alloc (.cells #[.int .u8 4] 5))) := HY.out.alloc HY.out.size _
  have x1 : (w0.alloc (.cells #[.int .u8 4] 5)).cell? ⟨w.heap.size, 1, none⟩ = some (.int .u64 num) := HBB.out.cell 1
  have x2 : (w0.alloc (.cells #[.int .u8 4] 5)).cell? ⟨w.heap.size, 2, none⟩ = some (.int .i64 node) := HBB.out.cell 2
  go_wp2_with fail
  refine (tidP _ _ num node _ HSB.out hnum.1 hnum.2 (by decide)).mono ?_
  rintro e w1 ⟨v1, rfl, hs, y⟩
  have HS : Hid (Src w1 v1 ([4] ++ tidB num node)) := hs
  have HB1 : Hid (Blk w1 w.heap.size #[.int .i64 4, .int .u64 num, .int .i64 node, .string key, .bool was, .string old, .int .u64 prev, .slice na nn nc, .slice ra rn rc, .slice ga gn gc, .slice oa om oc, .slice da dn dc] 31) := Blk.of HBB.out (y.block _ HBB.out.lt)
  have HY1 : Hid (Below w.heap.size w w1) := ext_trans HYB.out y
  clear hs y HB HY HSB HBB HYB z0 z1 z2 x1 x2
  have HB := HB1
  have HY := HY1
  clear HB1 HY1
  have z0 : w1.cell? ⟨w.heap.size, 0, none⟩ = some (.int .i64 4) := HB.out.cell 0
  go_wp2
  go_ret
  exact ⟨_, rfl, HS.out, HY.out⟩

set_option maxRecDepth 100000 in
set_option maxHeartbeats 8000000 in
theorem bytes11_5 (num : Int) (node : Int) (key : ByteArray) (was : Bool) (old : ByteArray) (prev : Int) (na : Option Addr) (nn : Nat) (nc : Nat) (ra : Option Addr) (rn : Nat) (rc : Nat) (ga : Option Addr) (gn : Nat) (gc : Nat) (oa : Option Addr) (om : Nat) (oc : Nat) (da : Option Addr) (dn : Nat) (dc : Nat) (ns : List Int) (rs : List ByteArray) (gs : List ChgV) (os : List OpenV) (ds : List DoneV) (w : World) (hnum : 0 ≤ num ∧ num < 18446744073709551616) (hlen : ([5] ++ tidB num node).length < 100000000) :
    Calls Tryz.prog 11 #[.agg #[.int .i64 5, .int .u64 num, .int .i64 node, .string key, .bool was, .string old, .int .u64 prev, .slice na nn nc, .slice ra rn rc, .slice ga gn gc, .slice oa om oc, .slice da dn dc]] w (BytesP w ([5] ++ tidB num node)) := by
  have HLEN : Hid (([5] ++ tidB num node).length < 100000000) := hlen
  have HB : Hid (Blk (w.alloc (.cells #[.int .i64 5, .int .u64 num, .int .i64 node, .string key, .bool was, .string old, .int .u64 prev, .slice na nn nc, .slice ra rn rc, .slice ga gn gc, .slice oa om oc, .slice da dn dc] 31)) w.heap.size #[.int .i64 5, .int .u64 num, .int .i64 node, .string key, .bool was, .string old, .int .u64 prev, .slice na nn nc, .slice ra rn rc, .slice ga gn gc, .slice oa om oc, .slice da dn dc] 31) := Blk.new _ _ _
  have HY : Hid (Below w.heap.size w (w.alloc (.cells #[.int .i64 5, .int .u64 num, .int .i64 node, .string key, .bool was, .string old, .int .u64 prev, .slice na nn nc, .slice ra rn rc, .slice ga gn gc, .slice oa om oc, .slice da dn dc] 31))) := (Below.refl _ _).alloc (Nat.le_refl _) _
  go_enter Tryz.func11, Tryz.ntmps11
  go_upto_region 1 with fail
  generalize (w.alloc (.cells #[.int .i64 5, .int .u64 num, .int .i64 node, .string key, .bool was, .string old, .int .u64 prev, .slice na nn nc, .slice ra rn rc, .slice ga gn gc, .slice oa om oc, .slice da dn dc] 31)) = w0 at *
  have z0 : w0.cell? ⟨w.heap.size, 0, none⟩ = some (.int .i64 5) := HB.out.cell 0
  have z1 : w0.cell? ⟨w.heap.size, 1, none⟩ = some (.int .u64 num) := HB.out.cell 1
  have z2 : w0.cell? ⟨w.heap.size, 2, none⟩ = some (.int .i64 node) := HB.out.cell 2
  have HSB : Hid (Src (w0.alloc (.cells #[.int .u8 5] 5)) (.slice (some ⟨w0.heap.size, 0, none⟩) 1 1) [5]) := Blk.src (l := [5]) (k := 1) (c := 1) (Blk.new _ _ _) (by decide) (by decide) (by unfold maxLen; omega)
  have HBB : Hid (Blk (w0.alloc (.cells #[.int .u8 5] 5)) w.heap.size #[.int .i64 5, .int .u64 num, .int .i64 node, .string key, .bool was, .string old, .int .u64 prev, .slice na nn nc, .slice ra rn rc, .slice ga gn gc, .slice oa om oc, .slice da dn dc] 31) := HB.out.alloc _
  have HYB : Hid (Below w.heap.size w (w0.alloc (.cells #[.int .u8 5] 5))) := HY.out.alloc HY.out.size _
  have x1 : (w0.alloc (.cells #[.int .u8 5] 5)).cell? ⟨w.heap.size, 1, none⟩ = some (.int .u64 num) := HBB.out.cell 1
  have x2 : (w0.alloc (.cells #[.int .u8 5] 5)).cell? ⟨w.heap.size, 2, none⟩ = some (.int .i64 node) := HBB.out.cell 2
  go_wp2_with fail
  refine (tidP _ _ num node _ HSB.out hnum.1 hnum.2 (by decide)).mono ?_
  rintro e w1 ⟨v1, rfl, hs, y⟩
  have HS : Hid (Src w1 v1 ([5] ++ tidB num node)) := hs
  have HB1 : Hid (Blk w1 w.heap.size #[.int .i64 5, .int .u64 num, .int .i64 node, .string key, .bool was, .string old, .int .u64 prev, .slice na nn nc, .slice ra rn rc, .slice ga gn gc, .slice oa om oc, .slice da dn dc] 31) := Blk.of HBB.out (y.block _ HBB.out.lt)
  have HY1 : Hid (Below w.heap.size w w1) := ext_trans HYB.out y
  clear hs y HB HY HSB HBB HYB z0 z1 z2 x1 x2
  have HB := HB1
  have HY := HY1
  clear HB1 HY1
  have z0 : w1.cell? ⟨w.heap.size, 0, none⟩ = some (.int .i64 5) := HB.out.cell 0
  go_wp2
  go_ret
  exact ⟨_, rfl, HS.out, HY.out⟩

set_option maxRecDepth 100000 in
set_option maxHeartbeats 8000000 in
theorem bytes11_7 (num : Int) (node : Int) (key : ByteArray) (was : Bool) (old : ByteArray) (prev : Int) (na : Option Addr) (nn : Nat) (nc : Nat) (ra : Option Addr) (rn : Nat) (rc : Nat) (ga : Option Addr) (gn : Nat) (gc : Nat) (oa : Option Addr) (om : Nat) (oc : Nat) (da : Option Addr) (dn : Nat) (dc : Nat) (ns : List Int) (rs : List ByteArray) (gs : List ChgV) (os : List OpenV) (ds : List DoneV) (w : World) (hnum : 0 ≤ num ∧ num < 18446744073709551616) (hlen : ([7] ++ tidB num node).length < 100000000) :
    Calls Tryz.prog 11 #[.agg #[.int .i64 7, .int .u64 num, .int .i64 node, .string key, .bool was, .string old, .int .u64 prev, .slice na nn nc, .slice ra rn rc, .slice ga gn gc, .slice oa om oc, .slice da dn dc]] w (BytesP w ([7] ++ tidB num node)) := by
  have HLEN : Hid (([7] ++ tidB num node).length < 100000000) := hlen
  have HB : Hid (Blk (w.alloc (.cells #[.int .i64 7, .int .u64 num, .int .i64 node, .string key, .bool was, .string old, .int .u64 prev, .slice na nn nc, .slice ra rn rc, .slice ga gn gc, .slice oa om oc, .slice da dn dc] 31)) w.heap.size #[.int .i64 7, .int .u64 num, .int .i64 node, .string key, .bool was, .string old, .int .u64 prev, .slice na nn nc, .slice ra rn rc, .slice ga gn gc, .slice oa om oc, .slice da dn dc] 31) := Blk.new _ _ _
  have HY : Hid (Below w.heap.size w (w.alloc (.cells #[.int .i64 7, .int .u64 num, .int .i64 node, .string key, .bool was, .string old, .int .u64 prev, .slice na nn nc, .slice ra rn rc, .slice ga gn gc, .slice oa om oc, .slice da dn dc] 31))) := (Below.refl _ _).alloc (Nat.le_refl _) _
  go_enter Tryz.func11, Tryz.ntmps11
  go_upto_region 1 with fail
  generalize (w.alloc (.cells #[.int .i64 7, .int .u64 num, .int .i64 node, .string key, .bool was, .string old, .int .u64 prev, .slice na nn nc, .slice ra rn rc, .slice ga gn gc, .slice oa om oc, .slice da dn dc] 31)) = w0 at *
  have z0 : w0.cell? ⟨w.heap.size, 0, none⟩ = some (.int .i64 7) := HB.out.cell 0
  have z1 : w0.cell? ⟨w.heap.size, 1, none⟩ = some (.int .u64 num) := HB.out.cell 1
  have z2 : w0.cell? ⟨w.heap.size, 2, none⟩ = some (.int .i64 node) := HB.out.cell 2
  have HSB : Hid (Src (w0.alloc (.cells #[.int .u8 7] 5)) (.slice (some ⟨w0.heap.size, 0, none⟩) 1 1) [7]) := Blk.src (l := [7]) (k := 1) (c := 1) (Blk.new _ _ _) (by decide) (by decide) (by unfold maxLen; omega)
  have HBB : Hid (Blk (w0.alloc (.cells #[.int .u8 7] 5)) w.heap.size #[.int .i64 7, .int .u64 num, .int .i64 node, .string key, .bool was, .string old, .int .u64 prev, .slice na nn nc, .slice ra rn rc, .slice ga gn gc, .slice oa om oc, .slice da dn dc] 31) := HB.out.alloc _
  have HYB : Hid (Below w.heap.size w (w0.alloc (.cells #[.int .u8 7] 5))) := HY.out.alloc HY.out.size _
  have x1 : (w0.alloc (.cells #[.int .u8 7] 5)).cell? ⟨w.heap.size, 1, none⟩ = some (.int .u64 num) := HBB.out.cell 1
  have x2 : (w0.alloc (.cells #[.int .u8 7] 5)).cell? ⟨w.heap.size, 2, none⟩ = some (.int .i64 node) := HBB.out.cell 2
  go_wp2_with fail
  refine (tidP _ _ num node _ HSB.out hnum.1 hnum.2 (by decide)).mono ?_
  rintro e w1 ⟨v1, rfl, hs, y⟩
  have HS : Hid (Src w1 v1 ([7] ++ tidB num node)) := hs
  have HB1 : Hid (Blk w1 w.heap.size #[.int .i64 7, .int .u64 num, .int .i64 node, .string key, .bool was, .string old, .int .u64 prev, .slice na nn nc, .slice ra rn rc, .slice ga gn gc, .slice oa om oc, .slice da dn dc] 31) := Blk.of HBB.out (y.block _ HBB.out.lt)
  have HY1 : Hid (Below w.heap.size w w1) := ext_trans HYB.out y
  clear hs y HB HY HSB HBB HYB z0 z1 z2 x1 x2
  have HB := HB1
  have HY := HY1
  clear HB1 HY1
  have z0 : w1.cell? ⟨w.heap.size, 0, none⟩ = some (.int .i64 7) := HB.out.cell 0
  go_wp2
  go_ret
  exact ⟨_, rfl, HS.out, HY.out⟩

set_option maxRecDepth 100000 in
set_option maxHeartbeats 8000000 in
theorem bytes11_3 (num : Int) (node : Int) (key : ByteArray) (was : Bool) (old : ByteArray) (prev : Int) (na : Option Addr) (nn : Nat) (nc : Nat) (ra : Option Addr) (rn : Nat) (rc : Nat) (ga : Option Addr) (gn : Nat) (gc : Nat) (oa : Option Addr) (om : Nat) (oc : Nat) (da : Option Addr) (dn : Nat) (dc : Nat) (ns : List Int) (rs : List ByteArray) (gs : List ChgV) (os : List OpenV) (ds : List DoneV) (w : World) (hnum : 0 ≤ num ∧ num < 18446744073709551616) (hr : Rd w (.slice ra rn rc) (sv rs)) (hrn : rs.length ≤ 100000) (hlen : ([3] ++ tidB num node ++ allB8 textB rs).length < 100000000) :
    Calls Tryz.prog 11 #[.agg #[.int .i64 3, .int .u64 num, .int .i64 node, .string key, .bool was, .string old, .int .u64 prev, .slice na nn nc, .slice ra rn rc, .slice ga gn gc, .slice oa om oc, .slice da dn dc]] w (BytesP w ([3] ++ tidB num node ++ allB8 textB rs)) := by
  have HLEN : Hid (([3] ++ tidB num node ++ allB8 textB rs).length < 100000000) := hlen
  have HR : Hid (Rd w (.slice ra rn rc) (sv rs)) := hr
  clear hr hlen
  have HB : Hid (Blk (w.alloc (.cells #[.int .i64 3, .int .u64 num, .int .i64 node, .string key, .bool was, .string old, .int .u64 prev, .slice na nn nc, .slice ra rn rc, .slice ga gn gc, .slice oa om oc, .slice da dn dc] 31)) w.heap.size #[.int .i64 3, .int .u64 num, .int .i64 node, .string key, .bool was, .string old, .int .u64 prev, .slice na nn nc, .slice ra rn rc, .slice ga gn gc, .slice oa om oc, .slice da dn dc] 31) := Blk.new _ _ _
  have HY : Hid (Below w.heap.size w (w.alloc (.cells #[.int .i64 3, .int .u64 num, .int .i64 node, .string key, .bool was, .string old, .int .u64 prev, .slice na nn nc, .slice ra rn rc, .slice ga gn gc, .slice oa om oc, .slice da dn dc] 31))) := (Below.refl _ _).alloc (Nat.le_refl _) _
  go_enter Tryz.func11, Tryz.ntmps11
  go_upto_region 1 with fail
  generalize (w.alloc (.cells #[.int .i64 3, .int .u64 num, .int .i64 node, .string key, .bool was, .string old, .int .u64 prev, .slice na nn nc, .slice ra rn rc, .slice ga gn gc, .slice oa om oc, .slice da dn dc] 31)) = w0 at *
  have z0 : w0.cell? ⟨w.heap.size, 0, none⟩ = some (.int .i64 3) := HB.out.cell 0
  have z1 : w0.cell? ⟨w.heap.size, 1, none⟩ = some (.int .u64 num) := HB.out.cell 1
  have z2 : w0.cell? ⟨w.heap.size, 2, none⟩ = some (.int .i64 node) := HB.out.cell 2
  have HSB : Hid (Src (w0.alloc (.cells #[.int .u8 3] 5)) (.slice (some ⟨w0.heap.size, 0, none⟩) 1 1) [3]) := Blk.src (l := [3]) (k := 1) (c := 1) (Blk.new _ _ _) (by decide) (by decide) (by unfold maxLen; omega)
  have HBB : Hid (Blk (w0.alloc (.cells #[.int .u8 3] 5)) w.heap.size #[.int .i64 3, .int .u64 num, .int .i64 node, .string key, .bool was, .string old, .int .u64 prev, .slice na nn nc, .slice ra rn rc, .slice ga gn gc, .slice oa om oc, .slice da dn dc] 31) := HB.out.alloc _
  have HYB : Hid (Below w.heap.size w (w0.alloc (.cells #[.int .u8 3] 5))) := HY.out.alloc HY.out.size _
  have x1 : (w0.alloc (.cells #[.int .u8 3] 5)).cell? ⟨w.heap.size, 1, none⟩ = some (.int .u64 num) := HBB.out.cell 1
  have x2 : (w0.alloc (.cells #[.int .u8 3] 5)).cell? ⟨w.heap.size, 2, none⟩ = some (.int .i64 node) := HBB.out.cell 2
  go_wp2_with fail
  refine (tidP _ _ num node _ HSB.out hnum.1 hnum.2 (by decide)).mono ?_
  rintro e w1 ⟨v1, rfl, hs, y⟩
  have HS : Hid (Src w1 v1 ([3] ++ tidB num node)) := hs
  have HB1 : Hid (Blk w1 w.heap.size #[.int .i64 3, .int .u64 num, .int .i64 node, .string key, .bool was, .string old, .int .u64 prev, .slice na nn nc, .slice ra rn rc, .slice ga gn gc, .slice oa om oc, .slice da dn dc] 31) := Blk.of HBB.out (y.block _ HBB.out.lt)
  have HY1 : Hid (Below w.heap.size w w1) := ext_trans HYB.out y
  clear hs y HB HY HSB HBB HYB z0 z1 z2 x1 x2
  have HB := HB1
  have HY := HY1
  clear HB1 HY1
  have z0 : w1.cell? ⟨w.heap.size, 0, none⟩ = some (.int .i64 3) := HB.out.cell 0
  have z8 : w1.cell? ⟨w.heap.size, 8, none⟩ = some (.slice ra rn rc) := HB.out.cell 8
  go_wp2_with fail
  refine (texts11_any _ _ _ rs w1 HS.out (HR.out.below HY.out) (by have := HLEN.out; simp only [List.length_append] at this ⊢; omega) hrn).mono ?_
  rintro e y1 ⟨v1, rfl, hs, y⟩
  have HS' : Hid (Src y1 v1 ([3] ++ tidB num node ++ allB8 textB rs)) := by show Src _ _ _; simpa only [List.append_assoc] using hs
  have HB' : Hid (Blk y1 w.heap.size #[.int .i64 3, .int .u64 num, .int .i64 node, .string key, .bool was, .string old, .int .u64 prev, .slice na nn nc, .slice ra rn rc, .slice ga gn gc, .slice oa om oc, .slice da dn dc] 31) := Blk.of HB.out (y.block _ HB.out.lt)
  have HY' : Hid (Below w.heap.size w y1) := ext_trans HY.out y
  clear hs y HS HB HY z0 z8
  have HS := HS'
  have HB := HB'
  have HY := HY'
  clear HS' HB' HY'
  have z0 : y1.cell? ⟨w.heap.size, 0, none⟩ = some (.int .i64 3) := HB.out.cell 0
  go_wp2
  go_ret
  exact ⟨_, rfl, HS.out, HY.out⟩

set_option maxRecDepth 100000 in
set_option maxHeartbeats 8000000 in
theorem bytes11_6 (num : Int) (node : Int) (key : ByteArray) (was : Bool) (old : ByteArray) (prev : Int) (na : Option Addr) (nn : Nat) (nc : Nat) (ra : Option Addr) (rn : Nat) (rc : Nat) (ga : Option Addr) (gn : Nat) (gc : Nat) (oa : Option Addr) (om : Nat) (oc : Nat) (da : Option Addr) (dn : Nat) (dc : Nat) (ns : List Int) (rs : List ByteArray) (gs : List ChgV) (os : List OpenV) (ds : List DoneV) (w : World) (hnum : 0 ≤ num ∧ num < 18446744073709551616) (hr : Rd w (.slice na nn nc) (iv ns)) (hrn : ns.length ≤ 100000) (hsm : ∀ n ∈ ns, 0 ≤ n ∧ n < 64) (hlen : ([6] ++ tidB num node ++ allB8 intB ns).length < 100000000) :
    Calls Tryz.prog 11 #[.agg #[.int .i64 6, .int .u64 num, .int .i64 node, .string key, .bool was, .string old, .int .u64 prev, .slice na nn nc, .slice ra rn rc, .slice ga gn gc, .slice oa om oc, .slice da dn dc]] w (BytesP w ([6] ++ tidB num node ++ allB8 intB ns)) := by
  have HLEN : Hid (([6] ++ tidB num node ++ allB8 intB ns).length < 100000000) := hlen
  have HR : Hid (Rd w (.slice na nn nc) (iv ns)) := hr
  have HSM : Hid (∀ n ∈ ns, 0 ≤ n ∧ n < 64) := hsm
  clear hr hlen hsm
  have HB : Hid (Blk (w.alloc (.cells #[.int .i64 6, .int .u64 num, .int .i64 node, .string key, .bool was, .string old, .int .u64 prev, .slice na nn nc, .slice ra rn rc, .slice ga gn gc, .slice oa om oc, .slice da dn dc] 31)) w.heap.size #[.int .i64 6, .int .u64 num, .int .i64 node, .string key, .bool was, .string old, .int .u64 prev, .slice na nn nc, .slice ra rn rc, .slice ga gn gc, .slice oa om oc, .slice da dn dc] 31) := Blk.new _ _ _
  have HY : Hid (Below w.heap.size w (w.alloc (.cells #[.int .i64 6, .int .u64 num, .int .i64 node, .string key, .bool was, .string old, .int .u64 prev, .slice na nn nc, .slice ra rn rc, .slice ga gn gc, .slice oa om oc, .slice da dn dc] 31))) := (Below.refl _ _).alloc (Nat.le_refl _) _
  go_enter Tryz.func11, Tryz.ntmps11
  go_upto_region 1 with fail
  generalize (w.alloc (.cells #[.int .i64 6, .int .u64 num, .int .i64 node, .string key, .bool was, .string old, .int .u64 prev, .slice na nn nc, .slice ra rn rc, .slice ga gn gc, .slice oa om oc, .slice da dn dc] 31)) = w0 at *
  have z0 : w0.cell? ⟨w.heap.size, 0, none⟩ = some (.int .i64 6) := HB.out.cell 0
  have z1 : w0.cell? ⟨w.heap.size, 1, none⟩ = some (.int .u64 num) := HB.out.cell 1
  have z2 : w0.cell? ⟨w.heap.size, 2, none⟩ = some (.int .i64 node) := HB.out.cell 2
  have HSB : Hid (Src (w0.alloc (.cells #[.int .u8 6] 5)) (.slice (some ⟨w0.heap.size, 0, none⟩) 1 1) [6]) := Blk.src (l := [6]) (k := 1) (c := 1) (Blk.new _ _ _) (by decide) (by decide) (by unfold maxLen; omega)
  have HBB : Hid (Blk (w0.alloc (.cells #[.int .u8 6] 5)) w.heap.size #[.int .i64 6, .int .u64 num, .int .i64 node, .string key, .bool was, .string old, .int .u64 prev, .slice na nn nc, .slice ra rn rc, .slice ga gn gc, .slice oa om oc, .slice da dn dc] 31) := HB.out.alloc _
  have HYB : Hid (Below w.heap.size w (w0.alloc (.cells #[.int .u8 6] 5))) := HY.out.alloc HY.out.size _
  have x1 : (w0.alloc (.cells #[.int .u8 6] 5)).cell? ⟨w.heap.size, 1, none⟩ = some (.int .u64 num) := HBB.out.cell 1
  have x2 : (w0.alloc (.cells #[.int .u8 6] 5)).cell? ⟨w.heap.size, 2, none⟩ = some (.int .i64 node) := HBB.out.cell 2
  go_wp2_with fail
  refine (tidP _ _ num node _ HSB.out hnum.1 hnum.2 (by decide)).mono ?_
  rintro e w1 ⟨v1, rfl, hs, y⟩
  have HS : Hid (Src w1 v1 ([6] ++ tidB num node)) := hs
  have HB1 : Hid (Blk w1 w.heap.size #[.int .i64 6, .int .u64 num, .int .i64 node, .string key, .bool was, .string old, .int .u64 prev, .slice na nn nc, .slice ra rn rc, .slice ga gn gc, .slice oa om oc, .slice da dn dc] 31) := Blk.of HBB.out (y.block _ HBB.out.lt)
  have HY1 : Hid (Below w.heap.size w w1) := ext_trans HYB.out y
  clear hs y HB HY HSB HBB HYB z0 z1 z2 x1 x2
  have HB := HB1
  have HY := HY1
  clear HB1 HY1
  have z0 : w1.cell? ⟨w.heap.size, 0, none⟩ = some (.int .i64 6) := HB.out.cell 0
  have z7 : w1.cell? ⟨w.heap.size, 7, none⟩ = some (.slice na nn nc) := HB.out.cell 7
  go_wp2_with fail
  refine (list11_any _ _ _ ns w1 HS.out (HR.out.below HY.out) (by have := HLEN.out; simp only [List.length_append] at this ⊢; omega) hrn HSM.out).mono ?_
  rintro e y1 ⟨v1, rfl, hs, y⟩
  have HS' : Hid (Src y1 v1 ([6] ++ tidB num node ++ allB8 intB ns)) := by show Src _ _ _; simpa only [List.append_assoc] using hs
  have HB' : Hid (Blk y1 w.heap.size #[.int .i64 6, .int .u64 num, .int .i64 node, .string key, .bool was, .string old, .int .u64 prev, .slice na nn nc, .slice ra rn rc, .slice ga gn gc, .slice oa om oc, .slice da dn dc] 31) := Blk.of HB.out (y.block _ HB.out.lt)
  have HY' : Hid (Below w.heap.size w y1) := ext_trans HY.out y
  clear hs y HS HB HY z0 z7
  have HS := HS'
  have HB := HB'
  have HY := HY'
  clear HS' HB' HY'
  have z0 : y1.cell? ⟨w.heap.size, 0, none⟩ = some (.int .i64 6) := HB.out.cell 0
  go_wp2
  go_ret
  exact ⟨_, rfl, HS.out, HY.out⟩

set_option maxRecDepth 100000 in
set_option maxHeartbeats 8000000 in
theorem bytes11_2 (num : Int) (node : Int) (key : ByteArray) (was : Bool) (old : ByteArray) (prev : Int) (na : Option Addr) (nn : Nat) (nc : Nat) (ra : Option Addr) (rn : Nat) (rc : Nat) (ga : Option Addr) (gn : Nat) (gc : Nat) (oa : Option Addr) (om : Nat) (oc : Nat) (da : Option Addr) (dn : Nat) (dc : Nat) (ns : List Int) (rs : List ByteArray) (gs : List ChgV) (os : List OpenV) (ds : List DoneV) (w : World) (hnum : 0 ≤ num ∧ num < 18446744073709551616) (hprev : 0 ≤ prev ∧ prev < 18446744073709551616) (hg : RowsN w 9 ChgV.c (.slice ga gn gc) gs) (hga : ∀ c ∈ gs, c.At w) (hgo : ∀ c ∈ gs, chgOk c = true) (hgn : gs.length ≤ 1000) (hlen : ([2] ++ tidB num node ++ intB prev ++ allB8 chgB gs).length < 100000000) :
    Calls Tryz.prog 11 #[.agg #[.int .i64 2, .int .u64 num, .int .i64 node, .string key, .bool was, .string old, .int .u64 prev, .slice na nn nc, .slice ra rn rc, .slice ga gn gc, .slice oa om oc, .slice da dn dc]] w (BytesP w ([2] ++ tidB num node ++ intB prev ++ allB8 chgB gs)) := by
  have HLEN : Hid (([2] ++ tidB num node ++ intB prev ++ allB8 chgB gs).length < 100000000) := hlen
  have HG : Hid (RowsN w 9 ChgV.c (.slice ga gn gc) gs) := hg
  have HGA : Hid (∀ c ∈ gs, c.At w) := hga
  have HGO : Hid (∀ c ∈ gs, chgOk c = true) := hgo
  have HWF : Hid (∀ c ∈ gs, True) := fun _ _ => trivial
  have hgm : gn ≤ 1000 := by have := hg.len.1; omega
  clear hg hga hgo hgn hlen
  have HB : Hid (Blk (w.alloc (.cells #[.int .i64 2, .int .u64 num, .int .i64 node, .string key, .bool was, .string old, .int .u64 prev, .slice na nn nc, .slice ra rn rc, .slice ga gn gc, .slice oa om oc, .slice da dn dc] 31)) w.heap.size #[.int .i64 2, .int .u64 num, .int .i64 node, .string key, .bool was, .string old, .int .u64 prev, .slice na nn nc, .slice ra rn rc, .slice ga gn gc, .slice oa om oc, .slice da dn dc] 31) := Blk.new _ _ _
  have HY : Hid (Below w.heap.size w (w.alloc (.cells #[.int .i64 2, .int .u64 num, .int .i64 node, .string key, .bool was, .string old, .int .u64 prev, .slice na nn nc, .slice ra rn rc, .slice ga gn gc, .slice oa om oc, .slice da dn dc] 31))) := (Below.refl _ _).alloc (Nat.le_refl _) _
  go_enter Tryz.func11, Tryz.ntmps11
  go_upto_region 1 with fail
  generalize (w.alloc (.cells #[.int .i64 2, .int .u64 num, .int .i64 node, .string key, .bool was, .string old, .int .u64 prev, .slice na nn nc, .slice ra rn rc, .slice ga gn gc, .slice oa om oc, .slice da dn dc] 31)) = w0 at *
  have z0 : w0.cell? ⟨w.heap.size, 0, none⟩ = some (.int .i64 2) := HB.out.cell 0
  have z1 : w0.cell? ⟨w.heap.size, 1, none⟩ = some (.int .u64 num) := HB.out.cell 1
  have z2 : w0.cell? ⟨w.heap.size, 2, none⟩ = some (.int .i64 node) := HB.out.cell 2
  have HSB : Hid (Src (w0.alloc (.cells #[.int .u8 2] 5)) (.slice (some ⟨w0.heap.size, 0, none⟩) 1 1) [2]) := Blk.src (l := [2]) (k := 1) (c := 1) (Blk.new _ _ _) (by decide) (by decide) (by unfold maxLen; omega)
  have HBB : Hid (Blk (w0.alloc (.cells #[.int .u8 2] 5)) w.heap.size #[.int .i64 2, .int .u64 num, .int .i64 node, .string key, .bool was, .string old, .int .u64 prev, .slice na nn nc, .slice ra rn rc, .slice ga gn gc, .slice oa om oc, .slice da dn dc] 31) := HB.out.alloc _
  have HYB : Hid (Below w.heap.size w (w0.alloc (.cells #[.int .u8 2] 5))) := HY.out.alloc HY.out.size _
  have x1 : (w0.alloc (.cells #[.int .u8 2] 5)).cell? ⟨w.heap.size, 1, none⟩ = some (.int .u64 num) := HBB.out.cell 1
  have x2 : (w0.alloc (.cells #[.int .u8 2] 5)).cell? ⟨w.heap.size, 2, none⟩ = some (.int .i64 node) := HBB.out.cell 2
  go_wp2_with fail
  refine (tidP _ _ num node _ HSB.out hnum.1 hnum.2 (by decide)).mono ?_
  rintro e w1 ⟨v1, rfl, hs, y⟩
  have HS : Hid (Src w1 v1 ([2] ++ tidB num node)) := hs
  have HB1 : Hid (Blk w1 w.heap.size #[.int .i64 2, .int .u64 num, .int .i64 node, .string key, .bool was, .string old, .int .u64 prev, .slice na nn nc, .slice ra rn rc, .slice ga gn gc, .slice oa om oc, .slice da dn dc] 31) := Blk.of HBB.out (y.block _ HBB.out.lt)
  have HY1 : Hid (Below w.heap.size w w1) := ext_trans HYB.out y
  clear hs y HB HY HSB HBB HYB z0 z1 z2 x1 x2
  have HB := HB1
  have HY := HY1
  clear HB1 HY1
  have z0 : w1.cell? ⟨w.heap.size, 0, none⟩ = some (.int .i64 2) := HB.out.cell 0
  have z6 : w1.cell? ⟨w.heap.size, 6, none⟩ = some (.int .u64 prev) := HB.out.cell 6
  go_wp2_with fail
  refine (putP _ _ prev w1 HS.out hprev.1 hprev.2 (by have := HLEN.out; simp only [List.length_append] at this ⊢; omega)).mono ?_
  rintro e y1 ⟨v1, rfl, hs, y⟩
  have HS' : Hid (Src y1 v1 ([2] ++ tidB num node ++ intB prev)) := by show Src _ _ _; simpa only [List.append_assoc] using hs
  have HB' : Hid (Blk y1 w.heap.size #[.int .i64 2, .int .u64 num, .int .i64 node, .string key, .bool was, .string old, .int .u64 prev, .slice na nn nc, .slice ra rn rc, .slice ga gn gc, .slice oa om oc, .slice da dn dc] 31) := Blk.of HB.out (y.block _ HB.out.lt)
  have HY' : Hid (Below w.heap.size w y1) := ext_trans HY.out y
  clear hs y HS HB HY z0 z6
  have HS := HS'
  have HB := HB'
  have HY := HY'
  clear HS' HB' HY'
  have z9 : y1.cell? ⟨w.heap.size, 9, none⟩ = some (.slice ga gn gc) := HB.out.cell 9
  go_wp2_with fail
  refine (num_put _ _ gn y1 HS.out (by omega) (by have := HLEN.out; simp only [List.length_append] at this ⊢; omega)).mono ?_
  rintro e y2 ⟨v2, rfl, hs, y⟩
  have HS' : Hid (Src y2 v2 ([2] ++ tidB num node ++ intB prev ++ enc gn)) := by show Src _ _ _; simpa only [List.append_assoc] using hs
  have HB' : Hid (Blk y2 w.heap.size #[.int .i64 2, .int .u64 num, .int .i64 node, .string key, .bool was, .string old, .int .u64 prev, .slice na nn nc, .slice ra rn rc, .slice ga gn gc, .slice oa om oc, .slice da dn dc] 31) := Blk.of HB.out (y.block _ HB.out.lt)
  have HY' : Hid (Below w.heap.size w y2) := ext_trans HY.out y
  clear hs y HS HB HY z9
  have HS := HS'
  have HB := HB'
  have HY := HY'
  clear HS' HB' HY'
  have HS0 : Hid (Src y2 v2 ([2] ++ tidB num node ++ intB prev ++ partB chgB gs 0)) := by show Src _ _ _; unfold partB; rw [List.take_zero, List.map_nil, List.flatten_nil, List.append_nil, ← HG.out.len.1]; exact HS.out
  have z9 : y2.cell? ⟨w.heap.size, 9, none⟩ = some (.slice ga gn gc) := HB.out.cell 9
  go_wp2
  clear z9
  go_loopw [3, 51] (fun v i wr => ∃ k : Nat, i = .int .i64 (k : Int) ∧ k ≤ gn ∧ Src wr v ([2] ++ tidB num node ++ intB prev ++ partB chgB gs k) ∧ Below w.heap.size w wr ∧ Blk wr w.heap.size #[.int .i64 2, .int .u64 num, .int .i64 node, .string key, .bool was, .string old, .int .u64 prev, .slice na nn nc, .slice ra rn rc, .slice ga gn gc, .slice oa om oc, .slice da dn dc] 31) (fun _ i _ => gn - (intOf i).toNat)
  case atStart => exact ⟨0, rfl, Nat.zero_le _, HS0.out, HY.out, HB.out⟩
  case round =>
    obtain ⟨k, rfl, hk, hs, y, hb⟩ := hrel
    clear HY HB HS HS0
    have HY : Hid (Below w.heap.size w wr) := y
    have HB : Hid (Blk wr w.heap.size #[.int .i64 2, .int .u64 num, .int .i64 node, .string key, .bool was, .string old, .int .u64 prev, .slice na nn nc, .slice ra rn rc, .slice ga gn gc, .slice oa om oc, .slice da dn dc] 31) := hb
    have HS : Hid (Src wr _ ([2] ++ tidB num node ++ intB prev ++ partB chgB gs k)) := hs
    clear y hb hs
    obtain ⟨vo, vc, hvk⟩ := HS.out.form
    subst hvk
    by_cases hlt : k < gn
    · have hkl : k < gs.length := by rw [← HG.out.len.1]; exact hlt
      have hi2 : (k : Int) < (gn : Int) := by omega
      obtain ⟨ad, had⟩ := RowsN.adr HG.out (by omega)
      subst had
      have HH : Hid (RowsN wr 9 _ (.slice (some ad) _ _) gs) := HG.out.below HY.out
      have e0 : wr.cell? (ad.add (k * 9)) = some _ := HH.out.at0 hkl rfl
      have e1 : wr.cell? ⟨(ad.add (k * 9)).block, (ad.add (k * 9)).off + 1, none⟩ = some _ := HH.out.atS hkl 0 rfl
      have e2 : wr.cell? ⟨(ad.add (k * 9)).block, (ad.add (k * 9)).off + 2, none⟩ = some _ := HH.out.atS hkl 1 rfl
      have e3 : wr.cell? ⟨(ad.add (k * 9)).block, (ad.add (k * 9)).off + 3, none⟩ = some _ := HH.out.atS hkl 2 rfl
      have e4 : wr.cell? ⟨(ad.add (k * 9)).block, (ad.add (k * 9)).off + 4, none⟩ = some _ := HH.out.atS hkl 3 rfl
      have e5 : wr.cell? ⟨(ad.add (k * 9)).block, (ad.add (k * 9)).off + 5, none⟩ = some _ := HH.out.atS hkl 4 rfl
      have e6 : wr.cell? ⟨(ad.add (k * 9)).block, (ad.add (k * 9)).off + 6, none⟩ = some _ := HH.out.atS hkl 5 rfl
      have e7 : wr.cell? ⟨(ad.add (k * 9)).block, (ad.add (k * 9)).off + 7, none⟩ = some _ := HH.out.atS hkl 6 rfl
      have e8 : wr.cell? ⟨(ad.add (k * 9)).block, (ad.add (k * 9)).off + 8, none⟩ = some _ := HH.out.atS hkl 7 rfl
      have HST : Hid (partB chgB gs (k + 1) = partB chgB gs k ++ chgB gs[k]) := all_take chgB hkl
      have HTOT : Hid (([2] ++ tidB num node ++ intB prev ++ (partB chgB gs k ++ chgB gs[k])).length < 100000000) := by
        have h1 := all_le chgB gs (k + 1)
        have h2 := HLEN.out
        rw [HST.out] at h1
        show _ < _
        simp only [List.length_append] at h1 h2 ⊢
        omega
      have HQA : Hid (gs[k].At w) := HGA.out _ (List.getElem_mem hkl)
      have HOK : Hid (_ = true) := HGO.out _ (List.getElem_mem hkl)
      have HQW := HWF.out gs[k] (List.getElem_mem hkl)
      generalize gs[k] = q at *
      obtain ⟨PK, hPK⟩ : ∃ l, l = partB chgB gs k := ⟨_, rfl⟩
      rw [← hPK] at HS HTOT HST ⊢
      clear hPK
      obtain ⟨vn, hvn⟩ : ∃ y, y = ([2] ++ tidB num node ++ intB prev ++ PK).length := ⟨_, rfl⟩
      rw [← hvn] at HS ⊢
      clear hvn
      have y : Below wr.heap.size wr (wr.alloc (.cells #[.int .i64 q.n, .int .i64 q.p.kind, .slice q.ka q.kn q.kc, .slice q.va q.vn q.vc, .slice q.da q.dn q.dc, .int .i64 q.p.root, .int .i64 q.p.next, .int .i64 q.p.size, .int .i64 q.p.idle] 49)) := below_allocR _
      have HY' : Hid (Below w.heap.size w (wr.alloc (.cells #[.int .i64 q.n, .int .i64 q.p.kind, .slice q.ka q.kn q.kc, .slice q.va q.vn q.vc, .slice q.da q.dn q.dc, .int .i64 q.p.root, .int .i64 q.p.next, .int .i64 q.p.size, .int .i64 q.p.idle] 49))) := HY.out.alloc HY.out.size _
      have HB' : Hid (Blk (wr.alloc (.cells #[.int .i64 q.n, .int .i64 q.p.kind, .slice q.ka q.kn q.kc, .slice q.va q.vn q.vc, .slice q.da q.dn q.dc, .int .i64 q.p.root, .int .i64 q.p.next, .int .i64 q.p.size, .int .i64 q.p.idle] 49)) w.heap.size #[.int .i64 2, .int .u64 num, .int .i64 node, .string key, .bool was, .string old, .int .u64 prev, .slice na nn nc, .slice ra rn rc, .slice (some ad) gn gc, .slice oa om oc, .slice da dn dc] 31) := HB.out.alloc _
      have HS' : Hid (Src (wr.alloc (.cells #[.int .i64 q.n, .int .i64 q.p.kind, .slice q.ka q.kn q.kc, .slice q.va q.vn q.vc, .slice q.da q.dn q.dc, .int .i64 q.p.root, .int .i64 q.p.next, .int .i64 q.p.size, .int .i64 q.p.idle] 49)) _ ([2] ++ tidB num node ++ intB prev ++ PK)) := HS.out.below y
      have HQ : Hid (Blk (wr.alloc (.cells #[.int .i64 q.n, .int .i64 q.p.kind, .slice q.ka q.kn q.kc, .slice q.va q.vn q.vc, .slice q.da q.dn q.dc, .int .i64 q.p.root, .int .i64 q.p.next, .int .i64 q.p.size, .int .i64 q.p.idle] 49)) wr.heap.size #[.int .i64 q.n, .int .i64 q.p.kind, .slice q.ka q.kn q.kc, .slice q.va q.vn q.vc, .slice q.da q.dn q.dc, .int .i64 q.p.root, .int .i64 q.p.next, .int .i64 q.p.size, .int .i64 q.p.idle] 49) := Blk.new _ _ _
      go_upto_region 12 with fail
      clear e0 e1 e2 e3 e4 e5 e6 e7 e8 HH HY HB HS y
      generalize (wr.alloc (.cells #[.int .i64 q.n, .int .i64 q.p.kind, .slice q.ka q.kn q.kc, .slice q.va q.vn q.vc, .slice q.da q.dn q.dc, .int .i64 q.p.root, .int .i64 q.p.next, .int .i64 q.p.size, .int .i64 q.p.idle] 49)) = y0 at *
      obtain ⟨b, hbb⟩ : ∃ b, wr.heap.size = b := ⟨_, rfl⟩
      rw [hbb] at HQ ⊢
      clear hbb
      have HS := HS'
      have HB := HB'
      have HY := HY'
      clear HS' HB' HY'
      have u1 : y0.cell? ⟨b, 1, none⟩ = some (.int .i64 q.p.kind) := HQ.out.cell 1
      have u2 : y0.cell? ⟨b, 2, none⟩ = some (.slice q.ka q.kn q.kc) := HQ.out.cell 2
      have u3 : y0.cell? ⟨b, 3, none⟩ = some (.slice q.va q.vn q.vc) := HQ.out.cell 3
      have u4 : y0.cell? ⟨b, 4, none⟩ = some (.slice q.da q.dn q.dc) := HQ.out.cell 4
      have u5 : y0.cell? ⟨b, 5, none⟩ = some (.int .i64 q.p.root) := HQ.out.cell 5
      have u6 : y0.cell? ⟨b, 6, none⟩ = some (.int .i64 q.p.next) := HQ.out.cell 6
      have u7 : y0.cell? ⟨b, 7, none⟩ = some (.int .i64 q.p.size) := HQ.out.cell 7
      have u8 : y0.cell? ⟨b, 8, none⟩ = some (.int .i64 q.p.idle) := HQ.out.cell 8
      have HPG := HQA.out.below HY.out
      go_wp2_with fail
      refine (encode_any q.p 0 _ _ _ y0 HPG.rd HPG.ok (by omega)).mono ?_
      rintro e y1 ⟨hs, y⟩
      rw [(chg_parts HOK.out).2, if_pos rfl] at hs
      obtain ⟨pv, rfl, hs⟩ := hs
      have HIM : Hid (Src y1 pv (encP q.p 0)) := hs
      have HS' : Hid (Src y1 _ ([2] ++ tidB num node ++ intB prev ++ PK)) := HS.out.below y
      clear HPG
      have HB' : Hid (Blk y1 w.heap.size #[.int .i64 2, .int .u64 num, .int .i64 node, .string key, .bool was, .string old, .int .u64 prev, .slice na nn nc, .slice ra rn rc, .slice (some ad) gn gc, .slice oa om oc, .slice da dn dc] 31) := Blk.of HB.out (y.block _ HB.out.lt)
      have HY' : Hid (Below w.heap.size w y1) := ext_trans HY.out y
      have HQ' : Hid (Blk y1 b #[.int .i64 q.n, .int .i64 q.p.kind, .slice q.ka q.kn q.kc, .slice q.va q.vn q.vc, .slice q.da q.dn q.dc, .int .i64 q.p.root, .int .i64 q.p.next, .int .i64 q.p.size, .int .i64 q.p.idle] 49) := Blk.of HQ.out (y.block _ HQ.out.lt)
      clear hs y HS HB HY HQ u1 u2 u3 u4 u5 u6 u7 u8
      have HS := HS'
      have HB := HB'
      have HY := HY'
      have HQ := HQ'
      clear HS' HB' HY' HQ'
      obtain ⟨po, pc, hpv⟩ := HIM.out.form
      subst hpv
      have hn1 := (chg_parts HOK.out).1
      have hwx := wrap_small hn1.1 (by omega)
      have u0 : y1.cell? ⟨b, 0, none⟩ = some (.int .i64 q.n) := HQ.out.cell 0
      go_wp2_with fail
      refine (putP _ _ q.n y1 HS.out (by omega) (by omega) (by have := HTOT.out; unfold chgB at this; simp only [List.length_append] at this ⊢; omega)).mono ?_
      rintro e y2 ⟨v2, rfl, hs, y⟩
      have HS' : Hid (Src y2 v2 ([2] ++ tidB num node ++ intB prev ++ PK ++ intB q.n)) := by show Src _ _ _; simpa only [List.append_assoc] using hs
      have HB' : Hid (Blk y2 w.heap.size #[.int .i64 2, .int .u64 num, .int .i64 node, .string key, .bool was, .string old, .int .u64 prev, .slice na nn nc, .slice ra rn rc, .slice (some ad) gn gc, .slice oa om oc, .slice da dn dc] 31) := Blk.of HB.out (y.block _ HB.out.lt)
      have HY' : Hid (Below w.heap.size w y2) := ext_trans HY.out y
      have HQ' : Hid (Blk y2 b #[.int .i64 q.n, .int .i64 q.p.kind, .slice q.ka q.kn q.kc, .slice q.va q.vn q.vc, .slice q.da q.dn q.dc, .int .i64 q.p.root, .int .i64 q.p.next, .int .i64 q.p.size, .int .i64 q.p.idle] 49) := Blk.of HQ.out (y.block _ HQ.out.lt)
      have HIM' : Hid (Src y2 _ (encP q.p 0)) := HIM.out.below y
      clear hs y HS HB HY HQ u0
      have HS := HS'
      have HB := HB'
      have HY := HY'
      have HQ := HQ'
      clear HS' HB' HY' HQ'
      have HIM2 := HIM'
      clear HIM' HIM hwx hn1
      have hst : (convert 34 9 (.slice po (encP q.p 0).length pc)).run Tryz.prog y2 = .ok (.string (imageB q.p)) y2 := HIM2.out.str
      have HTX := txtP _ _ (imageB q.p) y2 HS.out (by have := HTOT.out; unfold chgB at this; have h2 := textB_len (imageB q.p); simp only [List.length_append] at this ⊢; omega)
      generalize (encP q.p 0).length = pn at *
      generalize hIMG : imageB q.p = IMG at *
      go_wp2_with fail
      refine (HTX).mono ?_
      rintro e y3 ⟨v3, rfl, hs, y⟩
      have HS' : Hid (Src y3 v3 ([2] ++ tidB num node ++ intB prev ++ PK ++ (intB q.n ++ textB IMG))) := by show Src _ _ _; simpa only [List.append_assoc] using hs
      have HB' : Hid (Blk y3 w.heap.size #[.int .i64 2, .int .u64 num, .int .i64 node, .string key, .bool was, .string old, .int .u64 prev, .slice na nn nc, .slice ra rn rc, .slice (some ad) gn gc, .slice oa om oc, .slice da dn dc] 31) := Blk.of HB.out (y.block _ HB.out.lt)
      have HY' : Hid (Below w.heap.size w y3) := ext_trans HY.out y
      have HQ' : Hid (Blk y3 b #[.int .i64 q.n, .int .i64 q.p.kind, .slice q.ka q.kn q.kc, .slice q.va q.vn q.vc, .slice q.da q.dn q.dc, .int .i64 q.p.root, .int .i64 q.p.next, .int .i64 q.p.size, .int .i64 q.p.idle] 49) := Blk.of HQ.out (y.block _ HQ.out.lt)
      clear hs y HS HB HY HQ
      have HS := HS'
      have HB := HB'
      have HY := HY'
      have HQ := HQ'
      clear HS' HB' HY' HQ'
      rw [← hIMG] at HS
      clear hIMG hst HTX
      go_wp2
      go_roundw
      case rel => exact ⟨k + 1, by go_num, hlt, by rw [HST.out]; simpa only [List.append_assoc, chgB] using HS.out, HY.out, HB.out⟩
      case measure => simp [intOf]; omega
    · have hkn : k = gs.length := by rw [← HG.out.len.1]; omega
      have HE : Hid (partB chgB gs k = allB8 chgB gs) := by show _ = _; rw [hkn]; unfold partB allB8; rw [List.take_length]
      obtain ⟨vn2, hvn2⟩ : ∃ y, y = ([2] ++ tidB num node ++ intB prev ++ partB chgB gs k).length := ⟨_, rfl⟩
      rw [← hvn2] at HS ⊢
      rw [HE.out] at HS
      clear hkn hk hvn2 HE
      rename World => wz

      have z0 : wz.cell? ⟨w.heap.size, 0, none⟩ = some (.int .i64 2) := HB.out.cell 0
      go_wp2
      go_ret
      refine ⟨_, rfl, ?_, HY.out⟩
      show Src _ (.slice vo vn2 vc) _
      have HSF := HS.out
      simp only [List.append_assoc, List.cons_append, List.nil_append] at HSF ⊢
      exact HSF

set_option maxRecDepth 100000 in
set_option maxHeartbeats 8000000 in
theorem bytes11_1 (num : Int) (node : Int) (key : ByteArray) (was : Bool) (old : ByteArray) (prev : Int) (na : Option Addr) (nn : Nat) (nc : Nat) (ra : Option Addr) (rn : Nat) (rc : Nat) (ga : Option Addr) (gn : Nat) (gc : Nat) (oa : Option Addr) (om : Nat) (oc : Nat) (da : Option Addr) (dn : Nat) (dc : Nat) (ns : List Int) (rs : List ByteArray) (gs : List ChgV) (os : List OpenV) (ds : List DoneV) (w : World) (hnum : 0 ≤ num ∧ num < 18446744073709551616) (hprev : 0 ≤ prev ∧ prev < 18446744073709551616) (hg : RowsN w 9 ChgV.c (.slice ga gn gc) gs) (hga : ∀ c ∈ gs, c.At w) (hgo : ∀ c ∈ gs, chgOk c = true) (hgn : gs.length ≤ 1000) (hlen : ([1] ++ tidB num node ++ textB key ++ enc (flagN was) ++ textB old ++ intB prev ++ allB8 chgB gs).length < 100000000) :
    Calls Tryz.prog 11 #[.agg #[.int .i64 1, .int .u64 num, .int .i64 node, .string key, .bool was, .string old, .int .u64 prev, .slice na nn nc, .slice ra rn rc, .slice ga gn gc, .slice oa om oc, .slice da dn dc]] w (BytesP w ([1] ++ tidB num node ++ textB key ++ enc (flagN was) ++ textB old ++ intB prev ++ allB8 chgB gs)) := by
  have HLEN : Hid (([1] ++ tidB num node ++ textB key ++ enc (flagN was) ++ textB old ++ intB prev ++ allB8 chgB gs).length < 100000000) := hlen
  have HG : Hid (RowsN w 9 ChgV.c (.slice ga gn gc) gs) := hg
  have HGA : Hid (∀ c ∈ gs, c.At w) := hga
  have HGO : Hid (∀ c ∈ gs, chgOk c = true) := hgo
  have HWF : Hid (∀ c ∈ gs, True) := fun _ _ => trivial
  have hgm : gn ≤ 1000 := by have := hg.len.1; omega
  clear hg hga hgo hgn hlen
  have HB : Hid (Blk (w.alloc (.cells #[.int .i64 1, .int .u64 num, .int .i64 node, .string key, .bool was, .string old, .int .u64 prev, .slice na nn nc, .slice ra rn rc, .slice ga gn gc, .slice oa om oc, .slice da dn dc] 31)) w.heap.size #[.int .i64 1, .int .u64 num, .int .i64 node, .string key, .bool was, .string old, .int .u64 prev, .slice na nn nc, .slice ra rn rc, .slice ga gn gc, .slice oa om oc, .slice da dn dc] 31) := Blk.new _ _ _
  have HY : Hid (Below w.heap.size w (w.alloc (.cells #[.int .i64 1, .int .u64 num, .int .i64 node, .string key, .bool was, .string old, .int .u64 prev, .slice na nn nc, .slice ra rn rc, .slice ga gn gc, .slice oa om oc, .slice da dn dc] 31))) := (Below.refl _ _).alloc (Nat.le_refl _) _
  go_enter Tryz.func11, Tryz.ntmps11
  go_upto_region 1 with fail
  generalize (w.alloc (.cells #[.int .i64 1, .int .u64 num, .int .i64 node, .string key, .bool was, .string old, .int .u64 prev, .slice na nn nc, .slice ra rn rc, .slice ga gn gc, .slice oa om oc, .slice da dn dc] 31)) = w0 at *
  have z0 : w0.cell? ⟨w.heap.size, 0, none⟩ = some (.int .i64 1) := HB.out.cell 0
  have z1 : w0.cell? ⟨w.heap.size, 1, none⟩ = some (.int .u64 num) := HB.out.cell 1
  have z2 : w0.cell? ⟨w.heap.size, 2, none⟩ = some (.int .i64 node) := HB.out.cell 2
  have HSB : Hid (Src (w0.alloc (.cells #[.int .u8 1] 5)) (.slice (some ⟨w0.heap.size, 0, none⟩) 1 1) [1]) := Blk.src (l := [1]) (k := 1) (c := 1) (Blk.new _ _ _) (by decide) (by decide) (by unfold maxLen; omega)
  have HBB : Hid (Blk (w0.alloc (.cells #[.int .u8 1] 5)) w.heap.size #[.int .i64 1, .int .u64 num, .int .i64 node, .string key, .bool was, .string old, .int .u64 prev, .slice na nn nc, .slice ra rn rc, .slice ga gn gc, .slice oa om oc, .slice da dn dc] 31) := HB.out.alloc _
  have HYB : Hid (Below w.heap.size w (w0.alloc (.cells #[.int .u8 1] 5))) := HY.out.alloc HY.out.size _
  have x1 : (w0.alloc (.cells #[.int .u8 1] 5)).cell? ⟨w.heap.size, 1, none⟩ = some (.int .u64 num) := HBB.out.cell 1
  have x2 : (w0.alloc (.cells #[.int .u8 1] 5)).cell? ⟨w.heap.size, 2, none⟩ = some (.int .i64 node) := HBB.out.cell 2
  go_wp2_with fail
  refine (tidP _ _ num node _ HSB.out hnum.1 hnum.2 (by decide)).mono ?_
  rintro e w1 ⟨v1, rfl, hs, y⟩
  have HS : Hid (Src w1 v1 ([1] ++ tidB num node)) := hs
  have HB1 : Hid (Blk w1 w.heap.size #[.int .i64 1, .int .u64 num, .int .i64 node, .string key, .bool was, .string old, .int .u64 prev, .slice na nn nc, .slice ra rn rc, .slice ga gn gc, .slice oa om oc, .slice da dn dc] 31) := Blk.of HBB.out (y.block _ HBB.out.lt)
  have HY1 : Hid (Below w.heap.size w w1) := ext_trans HYB.out y
  clear hs y HB HY HSB HBB HYB z0 z1 z2 x1 x2
  have HB := HB1
  have HY := HY1
  clear HB1 HY1
  have z0 : w1.cell? ⟨w.heap.size, 0, none⟩ = some (.int .i64 1) := HB.out.cell 0
  have z3 : w1.cell? ⟨w.heap.size, 3, none⟩ = some (.string key) := HB.out.cell 3
  go_wp2_with fail
  refine (txtP _ _ key w1 HS.out (by have := HLEN.out; have h2 := textB_len key; simp only [List.length_append] at this ⊢; omega)).mono ?_
  rintro e y1 ⟨v1, rfl, hs, y⟩
  have HS' : Hid (Src y1 v1 ([1] ++ tidB num node ++ textB key)) := by show Src _ _ _; simpa only [List.append_assoc] using hs
  have HB' : Hid (Blk y1 w.heap.size #[.int .i64 1, .int .u64 num, .int .i64 node, .string key, .bool was, .string old, .int .u64 prev, .slice na nn nc, .slice ra rn rc, .slice ga gn gc, .slice oa om oc, .slice da dn dc] 31) := Blk.of HB.out (y.block _ HB.out.lt)
  have HY' : Hid (Below w.heap.size w y1) := ext_trans HY.out y
  clear hs y HS HB HY z0 z3
  have HS := HS'
  have HB := HB'
  have HY := HY'
  clear HS' HB' HY'
  have z4 : y1.cell? ⟨w.heap.size, 4, none⟩ = some (.bool was) := HB.out.cell 4
  go_wp2_with fail
  refine (flag11_any was y1).mono ?_
  rintro e wf ⟨rfl, hwf⟩
  subst hwf
  clear z4
  have hfl : flagN was < 18446744073709551616 := by unfold flagN; split <;> omega
  go_wp2_with fail
  refine (num_put _ _ (flagN was) wf HS.out hfl (by have := HLEN.out; simp only [List.length_append] at this ⊢; omega)).mono ?_
  rintro e y3 ⟨v3, rfl, hs, y⟩
  have HS' : Hid (Src y3 v3 ([1] ++ tidB num node ++ textB key ++ enc (flagN was))) := by show Src _ _ _; simpa only [List.append_assoc] using hs
  have HB' : Hid (Blk y3 w.heap.size #[.int .i64 1, .int .u64 num, .int .i64 node, .string key, .bool was, .string old, .int .u64 prev, .slice na nn nc, .slice ra rn rc, .slice ga gn gc, .slice oa om oc, .slice da dn dc] 31) := Blk.of HB.out (y.block _ HB.out.lt)
  have HY' : Hid (Below w.heap.size w y3) := ext_trans HY.out y
  clear hs y HS HB HY
  have HS := HS'
  have HB := HB'
  have HY := HY'
  clear HS' HB' HY'
  have z5 : y3.cell? ⟨w.heap.size, 5, none⟩ = some (.string old) := HB.out.cell 5
  go_wp2_with fail
  refine (txtP _ _ old y3 HS.out (by have := HLEN.out; have h2 := textB_len old; simp only [List.length_append] at this ⊢; omega)).mono ?_
  rintro e y4 ⟨v4, rfl, hs, y⟩
  have HS' : Hid (Src y4 v4 ([1] ++ tidB num node ++ textB key ++ enc (flagN was) ++ textB old)) := by show Src _ _ _; simpa only [List.append_assoc] using hs
  have HB' : Hid (Blk y4 w.heap.size #[.int .i64 1, .int .u64 num, .int .i64 node, .string key, .bool was, .string old, .int .u64 prev, .slice na nn nc, .slice ra rn rc, .slice ga gn gc, .slice oa om oc, .slice da dn dc] 31) := Blk.of HB.out (y.block _ HB.out.lt)
  have HY' : Hid (Below w.heap.size w y4) := ext_trans HY.out y
  clear hs y HS HB HY z5
  have HS := HS'
  have HB := HB'
  have HY := HY'
  clear HS' HB' HY'
  have z0 : y4.cell? ⟨w.heap.size, 0, none⟩ = some (.int .i64 1) := HB.out.cell 0
  have z6 : y4.cell? ⟨w.heap.size, 6, none⟩ = some (.int .u64 prev) := HB.out.cell 6
  go_wp2_with fail
  refine (putP _ _ prev y4 HS.out hprev.1 hprev.2 (by have := HLEN.out; simp only [List.length_append] at this ⊢; omega)).mono ?_
  rintro e y5 ⟨v5, rfl, hs, y⟩
  have HS' : Hid (Src y5 v5 ([1] ++ tidB num node ++ textB key ++ enc (flagN was) ++ textB old ++ intB prev)) := by show Src _ _ _; simpa only [List.append_assoc] using hs
  have HB' : Hid (Blk y5 w.heap.size #[.int .i64 1, .int .u64 num, .int .i64 node, .string key, .bool was, .string old, .int .u64 prev, .slice na nn nc, .slice ra rn rc, .slice ga gn gc, .slice oa om oc, .slice da dn dc] 31) := Blk.of HB.out (y.block _ HB.out.lt)
  have HY' : Hid (Below w.heap.size w y5) := ext_trans HY.out y
  clear hs y HS HB HY z0 z6
  have HS := HS'
  have HB := HB'
  have HY := HY'
  clear HS' HB' HY'
  have z9 : y5.cell? ⟨w.heap.size, 9, none⟩ = some (.slice ga gn gc) := HB.out.cell 9
  go_wp2_with fail
  refine (num_put _ _ gn y5 HS.out (by omega) (by have := HLEN.out; simp only [List.length_append] at this ⊢; omega)).mono ?_
  rintro e y6 ⟨v6, rfl, hs, y⟩
  have HS' : Hid (Src y6 v6 ([1] ++ tidB num node ++ textB key ++ enc (flagN was) ++ textB old ++ intB prev ++ enc gn)) := by show Src _ _ _; simpa only [List.append_assoc] using hs
  have HB' : Hid (Blk y6 w.heap.size #[.int .i64 1, .int .u64 num, .int .i64 node, .string key, .bool was, .string old, .int .u64 prev, .slice na nn nc, .slice ra rn rc, .slice ga gn gc, .slice oa om oc, .slice da dn dc] 31) := Blk.of HB.out (y.block _ HB.out.lt)
  have HY' : Hid (Below w.heap.size w y6) := ext_trans HY.out y
  clear hs y HS HB HY z9
  have HS := HS'
  have HB := HB'
  have HY := HY'
  clear HS' HB' HY'
  have HS0 : Hid (Src y6 v6 ([1] ++ tidB num node ++ textB key ++ enc (flagN was) ++ textB old ++ intB prev ++ partB chgB gs 0)) := by show Src _ _ _; unfold partB; rw [List.take_zero, List.map_nil, List.flatten_nil, List.append_nil, ← HG.out.len.1]; exact HS.out
  have z9 : y6.cell? ⟨w.heap.size, 9, none⟩ = some (.slice ga gn gc) := HB.out.cell 9
  go_wp2
  clear z9
  go_loopw [3, 51] (fun v i wr => ∃ k : Nat, i = .int .i64 (k : Int) ∧ k ≤ gn ∧ Src wr v ([1] ++ tidB num node ++ textB key ++ enc (flagN was) ++ textB old ++ intB prev ++ partB chgB gs k) ∧ Below w.heap.size w wr ∧ Blk wr w.heap.size #[.int .i64 1, .int .u64 num, .int .i64 node, .string key, .bool was, .string old, .int .u64 prev, .slice na nn nc, .slice ra rn rc, .slice ga gn gc, .slice oa om oc, .slice da dn dc] 31) (fun _ i _ => gn - (intOf i).toNat)
  case atStart => exact ⟨0, rfl, Nat.zero_le _, HS0.out, HY.out, HB.out⟩
  case round =>
    obtain ⟨k, rfl, hk, hs, y, hb⟩ := hrel
    clear HY HB HS HS0
    have HY : Hid (Below w.heap.size w wr) := y
    have HB : Hid (Blk wr w.heap.size #[.int .i64 1, .int .u64 num, .int .i64 node, .string key, .bool was, .string old, .int .u64 prev, .slice na nn nc, .slice ra rn rc, .slice ga gn gc, .slice oa om oc, .slice da dn dc] 31) := hb
    have HS : Hid (Src wr _ ([1] ++ tidB num node ++ textB key ++ enc (flagN was) ++ textB old ++ intB prev ++ partB chgB gs k)) := hs
    clear y hb hs
    obtain ⟨vo, vc, hvk⟩ := HS.out.form
    subst hvk
    by_cases hlt : k < gn
    · have hkl : k < gs.length := by rw [← HG.out.len.1]; exact hlt
      have hi2 : (k : Int) < (gn : Int) := by omega
      obtain ⟨ad, had⟩ := RowsN.adr HG.out (by omega)
      subst had
      have HH : Hid (RowsN wr 9 _ (.slice (some ad) _ _) gs) := HG.out.below HY.out
      have e0 : wr.cell? (ad.add (k * 9)) = some _ := HH.out.at0 hkl rfl
      have e1 : wr.cell? ⟨(ad.add (k * 9)).block, (ad.add (k * 9)).off + 1, none⟩ = some _ := HH.out.atS hkl 0 rfl
      have e2 : wr.cell? ⟨(ad.add (k * 9)).block, (ad.add (k * 9)).off + 2, none⟩ = some _ := HH.out.atS hkl 1 rfl
      have e3 : wr.cell? ⟨(ad.add (k * 9)).block, (ad.add (k * 9)).off + 3, none⟩ = some _ := HH.out.atS hkl 2 rfl
      have e4 : wr.cell? ⟨(ad.add (k * 9)).block, (ad.add (k * 9)).off + 4, none⟩ = some _ := HH.out.atS hkl 3 rfl
      have e5 : wr.cell? ⟨(ad.add (k * 9)).block, (ad.add (k * 9)).off + 5, none⟩ = some _ := HH.out.atS hkl 4 rfl
      have e6 : wr.cell? ⟨(ad.add (k * 9)).block, (ad.add (k * 9)).off + 6, none⟩ = some _ := HH.out.atS hkl 5 rfl
      have e7 : wr.cell? ⟨(ad.add (k * 9)).block, (ad.add (k * 9)).off + 7, none⟩ = some _ := HH.out.atS hkl 6 rfl
      have e8 : wr.cell? ⟨(ad.add (k * 9)).block, (ad.add (k * 9)).off + 8, none⟩ = some _ := HH.out.atS hkl 7 rfl
      have HST : Hid (partB chgB gs (k + 1) = partB chgB gs k ++ chgB gs[k]) := all_take chgB hkl
      have HTOT : Hid (([1] ++ tidB num node ++ textB key ++ enc (flagN was) ++ textB old ++ intB prev ++ (partB chgB gs k ++ chgB gs[k])).length < 100000000) := by
        have h1 := all_le chgB gs (k + 1)
        have h2 := HLEN.out
        rw [HST.out] at h1
        show _ < _
        simp only [List.length_append] at h1 h2 ⊢
        omega
      have HQA : Hid (gs[k].At w) := HGA.out _ (List.getElem_mem hkl)
      have HOK : Hid (_ = true) := HGO.out _ (List.getElem_mem hkl)
      have HQW := HWF.out gs[k] (List.getElem_mem hkl)
      generalize gs[k] = q at *
      obtain ⟨PK, hPK⟩ : ∃ l, l = partB chgB gs k := ⟨_, rfl⟩
      rw [← hPK] at HS HTOT HST ⊢
      clear hPK
      obtain ⟨vn, hvn⟩ : ∃ y, y = ([1] ++ tidB num node ++ textB key ++ enc (flagN was) ++ textB old ++ intB prev ++ PK).length := ⟨_, rfl⟩
      rw [← hvn] at HS ⊢
      clear hvn
      have y : Below wr.heap.size wr (wr.alloc (.cells #[.int .i64 q.n, .int .i64 q.p.kind, .slice q.ka q.kn q.kc, .slice q.va q.vn q.vc, .slice q.da q.dn q.dc, .int .i64 q.p.root, .int .i64 q.p.next, .int .i64 q.p.size, .int .i64 q.p.idle] 49)) := below_allocR _
      have HY' : Hid (Below w.heap.size w (wr.alloc (.cells #[.int .i64 q.n, .int .i64 q.p.kind, .slice q.ka q.kn q.kc, .slice q.va q.vn q.vc, .slice q.da q.dn q.dc, .int .i64 q.p.root, .int .i64 q.p.next, .int .i64 q.p.size, .int .i64 q.p.idle] 49))) := HY.out.alloc HY.out.size _
      have HB' : Hid (Blk (wr.alloc (.cells #[.int .i64 q.n, .int .i64 q.p.kind, .slice q.ka q.kn q.kc, .slice q.va q.vn q.vc, .slice q.da q.dn q.dc, .int .i64 q.p.root, .int .i64 q.p.next, .int .i64 q.p.size, .int .i64 q.p.idle] 49)) w.heap.size #[.int .i64 1, .int .u64 num, .int .i64 node, .string key, .bool was, .string old, .int .u64 prev, .slice na nn nc, .slice ra rn rc, .slice (some ad) gn gc, .slice oa om oc, .slice da dn dc] 31) := HB.out.alloc _
      have HS' : Hid (Src (wr.alloc (.cells #[.int .i64 q.n, .int .i64 q.p.kind, .slice q.ka q.kn q.kc, .slice q.va q.vn q.vc, .slice q.da q.dn q.dc, .int .i64 q.p.root, .int .i64 q.p.next, .int .i64 q.p.size, .int .i64 q.p.idle] 49)) _ ([1] ++ tidB num node ++ textB key ++ enc (flagN was) ++ textB old ++ intB prev ++ PK)) := HS.out.below y
      have HQ : Hid (Blk (wr.alloc (.cells #[.int .i64 q.n, .int .i64 q.p.kind, .slice q.ka q.kn q.kc, .slice q.va q.vn q.vc, .slice q.da q.dn q.dc, .int .i64 q.p.root, .int .i64 q.p.next, .int .i64 q.p.size, .int .i64 q.p.idle] 49)) wr.heap.size #[.int .i64 q.n, .int .i64 q.p.kind, .slice q.ka q.kn q.kc, .slice q.va q.vn q.vc, .slice q.da q.dn q.dc, .int .i64 q.p.root, .int .i64 q.p.next, .int .i64 q.p.size, .int .i64 q.p.idle] 49) := Blk.new _ _ _
      go_upto_region 12 with fail
      clear e0 e1 e2 e3 e4 e5 e6 e7 e8 HH HY HB HS y
      generalize (wr.alloc (.cells #[.int .i64 q.n, .int .i64 q.p.kind, .slice q.ka q.kn q.kc, .slice q.va q.vn q.vc, .slice q.da q.dn q.dc, .int .i64 q.p.root, .int .i64 q.p.next, .int .i64 q.p.size, .int .i64 q.p.idle] 49)) = y0 at *
      obtain ⟨b, hbb⟩ : ∃ b, wr.heap.size = b := ⟨_, rfl⟩
      rw [hbb] at HQ ⊢
      clear hbb
      have HS := HS'
      have HB := HB'
      have HY := HY'
      clear HS' HB' HY'
      have u1 : y0.cell? ⟨b, 1, none⟩ = some (.int .i64 q.p.kind) := HQ.out.cell 1
      have u2 : y0.cell? ⟨b, 2, none⟩ = some (.slice q.ka q.kn q.kc) := HQ.out.cell 2
      have u3 : y0.cell? ⟨b, 3, none⟩ = some (.slice q.va q.vn q.vc) := HQ.out.cell 3
      have u4 : y0.cell? ⟨b, 4, none⟩ = some (.slice q.da q.dn q.dc) := HQ.out.cell 4
      have u5 : y0.cell? ⟨b, 5, none⟩ = some (.int .i64 q.p.root) := HQ.out.cell 5
      have u6 : y0.cell? ⟨b, 6, none⟩ = some (.int .i64 q.p.next) := HQ.out.cell 6
      have u7 : y0.cell? ⟨b, 7, none⟩ = some (.int .i64 q.p.size) := HQ.out.cell 7
      have u8 : y0.cell? ⟨b, 8, none⟩ = some (.int .i64 q.p.idle) := HQ.out.cell 8
      have HPG := HQA.out.below HY.out
      go_wp2_with fail
      refine (encode_any q.p 0 _ _ _ y0 HPG.rd HPG.ok (by omega)).mono ?_
      rintro e y1 ⟨hs, y⟩
      rw [(chg_parts HOK.out).2, if_pos rfl] at hs
      obtain ⟨pv, rfl, hs⟩ := hs
      have HIM : Hid (Src y1 pv (encP q.p 0)) := hs
      have HS' : Hid (Src y1 _ ([1] ++ tidB num node ++ textB key ++ enc (flagN was) ++ textB old ++ intB prev ++ PK)) := HS.out.below y
      clear HPG
      have HB' : Hid (Blk y1 w.heap.size #[.int .i64 1, .int .u64 num, .int .i64 node, .string key, .bool was, .string old, .int .u64 prev, .slice na nn nc, .slice ra rn rc, .slice (some ad) gn gc, .slice oa om oc, .slice da dn dc] 31) := Blk.of HB.out (y.block _ HB.out.lt)
      have HY' : Hid (Below w.heap.size w y1) := ext_trans HY.out y
      have HQ' : Hid (Blk y1 b #[.int .i64 q.n, .int .i64 q.p.kind, .slice q.ka q.kn q.kc, .slice q.va q.vn q.vc, .slice q.da q.dn q.dc, .int .i64 q.p.root, .int .i64 q.p.next, .int .i64 q.p.size, .int .i64 q.p.idle] 49) := Blk.of HQ.out (y.block _ HQ.out.lt)
      clear hs y HS HB HY HQ u1 u2 u3 u4 u5 u6 u7 u8
      have HS := HS'
      have HB := HB'
      have HY := HY'
      have HQ := HQ'
      clear HS' HB' HY' HQ'
      obtain ⟨po, pc, hpv⟩ := HIM.out.form
      subst hpv
      have hn1 := (chg_parts HOK.out).1
      have hwx := wrap_small hn1.1 (by omega)
      have u0 : y1.cell? ⟨b, 0, none⟩ = some (.int .i64 q.n) := HQ.out.cell 0
      go_wp2_with fail
      refine (putP _ _ q.n y1 HS.out (by omega) (by omega) (by have := HTOT.out; unfold chgB at this; simp only [List.length_append] at this ⊢; omega)).mono ?_
      rintro e y2 ⟨v2, rfl, hs, y⟩
      have HS' : Hid (Src y2 v2 ([1] ++ tidB num node ++ textB key ++ enc (flagN was) ++ textB old ++ intB prev ++ PK ++ intB q.n)) := by show Src _ _ _; simpa only [List.append_assoc] using hs
      have HB' : Hid (Blk y2 w.heap.size #[.int .i64 1, .int .u64 num, .int .i64 node, .string key, .bool was, .string old, .int .u64 prev, .slice na nn nc, .slice ra rn rc, .slice (some ad) gn gc, .slice oa om oc, .slice da dn dc] 31) := Blk.of HB.out (y.block _ HB.out.lt)
      have HY' : Hid (Below w.heap.size w y2) := ext_trans HY.out y
      have HQ' : Hid (Blk y2 b #[.int .i64 q.n, .int .i64 q.p.kind, .slice q.ka q.kn q.kc, .slice q.va q.vn q.vc, .slice q.da q.dn q.dc, .int .i64 q.p.root, .int .i64 q.p.next, .int .i64 q.p.size, .int .i64 q.p.idle] 49) := Blk.of HQ.out (y.block _ HQ.out.lt)
      have HIM' : Hid (Src y2 _ (encP q.p 0)) := HIM.out.below y
      clear hs y HS HB HY HQ u0
      have HS := HS'
      have HB := HB'
      have HY := HY'
      have HQ := HQ'
      clear HS' HB' HY' HQ'
      have HIM2 := HIM'
      clear HIM' HIM hwx hn1
      have hst : (convert 34 9 (.slice po (encP q.p 0).length pc)).run Tryz.prog y2 = .ok (.string (imageB q.p)) y2 := HIM2.out.str
      have HTX := txtP _ _ (imageB q.p) y2 HS.out (by have := HTOT.out; unfold chgB at this; have h2 := textB_len (imageB q.p); simp only [List.length_append] at this ⊢; omega)
      generalize (encP q.p 0).length = pn at *
      generalize hIMG : imageB q.p = IMG at *
      go_wp2_with fail
      refine (HTX).mono ?_
      rintro e y3 ⟨v3, rfl, hs, y⟩
      have HS' : Hid (Src y3 v3 ([1] ++ tidB num node ++ textB key ++ enc (flagN was) ++ textB old ++ intB prev ++ PK ++ (intB q.n ++ textB IMG))) := by show Src _ _ _; simpa only [List.append_assoc] using hs
      have HB' : Hid (Blk y3 w.heap.size #[.int .i64 1, .int .u64 num, .int .i64 node, .string key, .bool was, .string old, .int .u64 prev, .slice na nn nc, .slice ra rn rc, .slice (some ad) gn gc, .slice oa om oc, .slice da dn dc] 31) := Blk.of HB.out (y.block _ HB.out.lt)
      have HY' : Hid (Below w.heap.size w y3) := ext_trans HY.out y
      have HQ' : Hid (Blk y3 b #[.int .i64 q.n, .int .i64 q.p.kind, .slice q.ka q.kn q.kc, .slice q.va q.vn q.vc, .slice q.da q.dn q.dc, .int .i64 q.p.root, .int .i64 q.p.next, .int .i64 q.p.size, .int .i64 q.p.idle] 49) := Blk.of HQ.out (y.block _ HQ.out.lt)
      clear hs y HS HB HY HQ
      have HS := HS'
      have HB := HB'
      have HY := HY'
      have HQ := HQ'
      clear HS' HB' HY' HQ'
      rw [← hIMG] at HS
      clear hIMG hst HTX
      go_wp2
      go_roundw
      case rel => exact ⟨k + 1, by go_num, hlt, by rw [HST.out]; simpa only [List.append_assoc, chgB] using HS.out, HY.out, HB.out⟩
      case measure => simp [intOf]; omega
    · have hkn : k = gs.length := by rw [← HG.out.len.1]; omega
      have HE : Hid (partB chgB gs k = allB8 chgB gs) := by show _ = _; rw [hkn]; unfold partB allB8; rw [List.take_length]
      obtain ⟨vn2, hvn2⟩ : ∃ y, y = ([1] ++ tidB num node ++ textB key ++ enc (flagN was) ++ textB old ++ intB prev ++ partB chgB gs k).length := ⟨_, rfl⟩
      rw [← hvn2] at HS ⊢
      rw [HE.out] at HS
      clear hkn hk hvn2 HE
      rename World => wz

      have z0 : wz.cell? ⟨w.heap.size, 0, none⟩ = some (.int .i64 1) := HB.out.cell 0
      go_wp2
      go_ret
      refine ⟨_, rfl, ?_, HY.out⟩
      show Src _ (.slice vo vn2 vc) _
      have HSF := HS.out
      simp only [List.append_assoc, List.cons_append, List.nil_append] at HSF ⊢
      exact HSF

set_option maxRecDepth 100000 in
set_option maxHeartbeats 8000000 in
theorem bytes11_8 (num : Int) (node : Int) (key : ByteArray) (was : Bool) (old : ByteArray) (prev : Int) (na : Option Addr) (nn : Nat) (nc : Nat) (ra : Option Addr) (rn : Nat) (rc : Nat) (ga : Option Addr) (gn : Nat) (gc : Nat) (oa : Option Addr) (om : Nat) (oc : Nat) (da : Option Addr) (dn : Nat) (dc : Nat) (ns : List Int) (rs : List ByteArray) (gs : List ChgV) (os : List OpenV) (ds : List DoneV) (w : World) (hnum : 0 ≤ num ∧ num < 18446744073709551616) (ho : RowsN w 7 OpenV.c (.slice oa om oc) os) (hoa : ∀ c ∈ os, c.At w) (hoo : ∀ c ∈ os, openOk c = true) (hon : os.length ≤ 1000) (hd : RowsN w 3 DoneV.c (.slice da dn dc) ds) (hda : ∀ c ∈ ds, c.At w) (hdo : ∀ c ∈ ds, doneOk c = true) (hdn : ds.length ≤ 1000) (how : ∀ o ∈ os, (0 ≤ o.num ∧ o.num < 18446744073709551616) ∧ (0 ≤ o.last ∧ o.last < 18446744073709551616) ∧ (0 ≤ o.first ∧ o.first < 18446744073709551616)) (hdw : ∀ d ∈ ds, 0 ≤ d.num ∧ d.num < 18446744073709551616) (hlen : ([8] ++ tidB num node ++ allB8 openB os ++ allB8 doneB ds).length < 100000000) :
    Calls Tryz.prog 11 #[.agg #[.int .i64 8, .int .u64 num, .int .i64 node, .string key, .bool was, .string old, .int .u64 prev, .slice na nn nc, .slice ra rn rc, .slice ga gn gc, .slice oa om oc, .slice da dn dc]] w (BytesP w ([8] ++ tidB num node ++ allB8 openB os ++ allB8 doneB ds)) := by
  have HLEN : Hid (([8] ++ tidB num node ++ allB8 openB os ++ allB8 doneB ds).length < 100000000) := hlen
  have HO : Hid (RowsN w 7 OpenV.c (.slice oa om oc) os) := ho
  have HOA : Hid (∀ c ∈ os, c.At w) := hoa
  have HOO : Hid (∀ c ∈ os, openOk c = true) := hoo
  have HOW : Hid (∀ o ∈ os, (0 ≤ o.num ∧ o.num < 18446744073709551616) ∧ (0 ≤ o.last ∧ o.last < 18446744073709551616) ∧ (0 ≤ o.first ∧ o.first < 18446744073709551616)) := how
  have HD : Hid (RowsN w 3 DoneV.c (.slice da dn dc) ds) := hd
  have HDA : Hid (∀ c ∈ ds, c.At w) := hda
  have HDO : Hid (∀ c ∈ ds, doneOk c = true) := hdo
  have HDW : Hid (∀ d ∈ ds, 0 ≤ d.num ∧ d.num < 18446744073709551616) := hdw
  have hom : om ≤ 1000 := by have := ho.len.1; omega
  have hdm : dn ≤ 1000 := by have := hd.len.1; omega
  clear ho hoa hoo hon hd hda hdo hdn how hdw hlen
  have HB : Hid (Blk (w.alloc (.cells #[.int .i64 8, .int .u64 num, .int .i64 node, .string key, .bool was, .string old, .int .u64 prev, .slice na nn nc, .slice ra rn rc, .slice ga gn gc, .slice oa om oc, .slice da dn dc] 31)) w.heap.size #[.int .i64 8, .int .u64 num, .int .i64 node, .string key, .bool was, .string old, .int .u64 prev, .slice na nn nc, .slice ra rn rc, .slice ga gn gc, .slice oa om oc, .slice da dn dc] 31) := Blk.new _ _ _
  have HY : Hid (Below w.heap.size w (w.alloc (.cells #[.int .i64 8, .int .u64 num, .int .i64 node, .string key, .bool was, .string old, .int .u64 prev, .slice na nn nc, .slice ra rn rc, .slice ga gn gc, .slice oa om oc, .slice da dn dc] 31))) := (Below.refl _ _).alloc (Nat.le_refl _) _
  go_enter Tryz.func11, Tryz.ntmps11
  go_upto_region 1 with fail
  generalize (w.alloc (.cells #[.int .i64 8, .int .u64 num, .int .i64 node, .string key, .bool was, .string old, .int .u64 prev, .slice na nn nc, .slice ra rn rc, .slice ga gn gc, .slice oa om oc, .slice da dn dc] 31)) = w0 at *
  have z0 : w0.cell? ⟨w.heap.size, 0, none⟩ = some (.int .i64 8) := HB.out.cell 0
  have z1 : w0.cell? ⟨w.heap.size, 1, none⟩ = some (.int .u64 num) := HB.out.cell 1
  have z2 : w0.cell? ⟨w.heap.size, 2, none⟩ = some (.int .i64 node) := HB.out.cell 2
  have HSB : Hid (Src (w0.alloc (.cells #[.int .u8 8] 5)) (.slice (some ⟨w0.heap.size, 0, none⟩) 1 1) [8]) := Blk.src (l := [8]) (k := 1) (c := 1) (Blk.new _ _ _) (by decide) (by decide) (by unfold maxLen; omega)
  have HBB : Hid (Blk (w0.alloc (.cells #[.int .u8 8] 5)) w.heap.size #[.int .i64 8, .int .u64 num, .int .i64 node, .string key, .bool was, .string old, .int .u64 prev, .slice na nn nc, .slice ra rn rc, .slice ga gn gc, .slice oa om oc, .slice da dn dc] 31) := HB.out.alloc _
  have HYB : Hid (Below w.heap.size w (w0.alloc (.cells #[.int .u8 8] 5))) := HY.out.alloc HY.out.size _
  have x1 : (w0.alloc (.cells #[.int .u8 8] 5)).cell? ⟨w.heap.size, 1, none⟩ = some (.int .u64 num) := HBB.out.cell 1
  have x2 : (w0.alloc (.cells #[.int .u8 8] 5)).cell? ⟨w.heap.size, 2, none⟩ = some (.int .i64 node) := HBB.out.cell 2
  go_wp2_with fail
  refine (tidP _ _ num node _ HSB.out hnum.1 hnum.2 (by decide)).mono ?_
  rintro e w1 ⟨v1, rfl, hs, y⟩
  have HS : Hid (Src w1 v1 ([8] ++ tidB num node)) := hs
  have HB1 : Hid (Blk w1 w.heap.size #[.int .i64 8, .int .u64 num, .int .i64 node, .string key, .bool was, .string old, .int .u64 prev, .slice na nn nc, .slice ra rn rc, .slice ga gn gc, .slice oa om oc, .slice da dn dc] 31) := Blk.of HBB.out (y.block _ HBB.out.lt)
  have HY1 : Hid (Below w.heap.size w w1) := ext_trans HYB.out y
  clear hs y HB HY HSB HBB HYB z0 z1 z2 x1 x2
  have HB := HB1
  have HY := HY1
  clear HB1 HY1
  have z0 : w1.cell? ⟨w.heap.size, 0, none⟩ = some (.int .i64 8) := HB.out.cell 0
  have z10 : w1.cell? ⟨w.heap.size, 10, none⟩ = some (.slice oa om oc) := HB.out.cell 10
  go_wp2_with fail
  refine (num_put _ _ om w1 HS.out (by omega) (by have := HLEN.out; simp only [List.length_append] at this ⊢; omega)).mono ?_
  rintro e y1 ⟨v1, rfl, hs, y⟩
  have HS' : Hid (Src y1 v1 ([8] ++ tidB num node ++ enc om)) := by show Src _ _ _; simpa only [List.append_assoc] using hs
  have HB' : Hid (Blk y1 w.heap.size #[.int .i64 8, .int .u64 num, .int .i64 node, .string key, .bool was, .string old, .int .u64 prev, .slice na nn nc, .slice ra rn rc, .slice ga gn gc, .slice oa om oc, .slice da dn dc] 31) := Blk.of HB.out (y.block _ HB.out.lt)
  have HY' : Hid (Below w.heap.size w y1) := ext_trans HY.out y
  clear hs y HS HB HY z0 z10
  have HS := HS'
  have HB := HB'
  have HY := HY'
  clear HS' HB' HY'
  have HWF := HOW
  have HS0 : Hid (Src y1 v1 ([8] ++ tidB num node ++ partB openB os 0)) := by show Src _ _ _; unfold partB; rw [List.take_zero, List.map_nil, List.flatten_nil, List.append_nil, ← HO.out.len.1]; exact HS.out
  have z10 : y1.cell? ⟨w.heap.size, 10, none⟩ = some (.slice oa om oc) := HB.out.cell 10
  go_wp2
  clear z10
  go_loopw [3, 97] (fun v i wr => ∃ k : Nat, i = .int .i64 (k : Int) ∧ k ≤ om ∧ Src wr v ([8] ++ tidB num node ++ partB openB os k) ∧ Below w.heap.size w wr ∧ Blk wr w.heap.size #[.int .i64 8, .int .u64 num, .int .i64 node, .string key, .bool was, .string old, .int .u64 prev, .slice na nn nc, .slice ra rn rc, .slice ga gn gc, .slice oa om oc, .slice da dn dc] 31) (fun _ i _ => om - (intOf i).toNat)
  case atStart => exact ⟨0, rfl, Nat.zero_le _, HS0.out, HY.out, HB.out⟩
  case round =>
    obtain ⟨k, rfl, hk, hs, y, hb⟩ := hrel
    clear HY HB HS HS0
    have HY : Hid (Below w.heap.size w wr) := y
    have HB : Hid (Blk wr w.heap.size #[.int .i64 8, .int .u64 num, .int .i64 node, .string key, .bool was, .string old, .int .u64 prev, .slice na nn nc, .slice ra rn rc, .slice ga gn gc, .slice oa om oc, .slice da dn dc] 31) := hb
    have HS : Hid (Src wr _ ([8] ++ tidB num node ++ partB openB os k)) := hs
    clear y hb hs
    obtain ⟨vo, vc, hvk⟩ := HS.out.form
    subst hvk
    by_cases hlt : k < om
    · have hkl : k < os.length := by rw [← HO.out.len.1]; exact hlt
      have hi2 : (k : Int) < (om : Int) := by omega
      obtain ⟨ad, had⟩ := RowsN.adr HO.out (by omega)
      subst had
      have HH : Hid (RowsN wr 7 _ (.slice (some ad) _ _) os) := HO.out.below HY.out
      have e0 : wr.cell? (ad.add (k * 7)) = some _ := HH.out.at0 hkl rfl
      have e1 : wr.cell? ⟨(ad.add (k * 7)).block, (ad.add (k * 7)).off + 1, none⟩ = some _ := HH.out.atS hkl 0 rfl
      have e2 : wr.cell? ⟨(ad.add (k * 7)).block, (ad.add (k * 7)).off + 2, none⟩ = some _ := HH.out.atS hkl 1 rfl
      have e3 : wr.cell? ⟨(ad.add (k * 7)).block, (ad.add (k * 7)).off + 3, none⟩ = some _ := HH.out.atS hkl 2 rfl
      have e4 : wr.cell? ⟨(ad.add (k * 7)).block, (ad.add (k * 7)).off + 4, none⟩ = some _ := HH.out.atS hkl 3 rfl
      have e5 : wr.cell? ⟨(ad.add (k * 7)).block, (ad.add (k * 7)).off + 5, none⟩ = some _ := HH.out.atS hkl 4 rfl
      have e6 : wr.cell? ⟨(ad.add (k * 7)).block, (ad.add (k * 7)).off + 6, none⟩ = some _ := HH.out.atS hkl 5 rfl
      have HST : Hid (partB openB os (k + 1) = partB openB os k ++ openB os[k]) := all_take openB hkl
      have HTOT : Hid (([8] ++ tidB num node ++ (partB openB os k ++ openB os[k])).length < 100000000) := by
        have h1 := all_le openB os (k + 1)
        have h2 := HLEN.out
        rw [HST.out] at h1
        show _ < _
        simp only [List.length_append] at h1 h2 ⊢
        omega
      have HQA : Hid (os[k].At w) := HOA.out _ (List.getElem_mem hkl)
      have HOK : Hid (_ = true) := HOO.out _ (List.getElem_mem hkl)
      have HQW := HWF.out os[k] (List.getElem_mem hkl)
      generalize os[k] = q at *
      obtain ⟨PK, hPK⟩ : ∃ l, l = partB openB os k := ⟨_, rfl⟩
      rw [← hPK] at HS HTOT HST ⊢
      clear hPK
      obtain ⟨vn, hvn⟩ : ∃ y, y = ([8] ++ tidB num node ++ PK).length := ⟨_, rfl⟩
      rw [← hvn] at HS ⊢
      clear hvn
      have y : Below wr.heap.size wr (wr.alloc (.cells #[.int .u64 q.num, .int .i64 q.node, .int .u64 q.last, .int .u64 q.first, .int .i64 q.count, .bool q.ready, .slice q.ra q.rn q.rc] 45)) := below_allocR _
      have HY' : Hid (Below w.heap.size w (wr.alloc (.cells #[.int .u64 q.num, .int .i64 q.node, .int .u64 q.last, .int .u64 q.first, .int .i64 q.count, .bool q.ready, .slice q.ra q.rn q.rc] 45))) := HY.out.alloc HY.out.size _
      have HB' : Hid (Blk (wr.alloc (.cells #[.int .u64 q.num, .int .i64 q.node, .int .u64 q.last, .int .u64 q.first, .int .i64 q.count, .bool q.ready, .slice q.ra q.rn q.rc] 45)) w.heap.size #[.int .i64 8, .int .u64 num, .int .i64 node, .string key, .bool was, .string old, .int .u64 prev, .slice na nn nc, .slice ra rn rc, .slice ga gn gc, .slice (some ad) om oc, .slice da dn dc] 31) := HB.out.alloc _
      have HS' : Hid (Src (wr.alloc (.cells #[.int .u64 q.num, .int .i64 q.node, .int .u64 q.last, .int .u64 q.first, .int .i64 q.count, .bool q.ready, .slice q.ra q.rn q.rc] 45)) _ ([8] ++ tidB num node ++ PK)) := HS.out.below y
      have HQ : Hid (Blk (wr.alloc (.cells #[.int .u64 q.num, .int .i64 q.node, .int .u64 q.last, .int .u64 q.first, .int .i64 q.count, .bool q.ready, .slice q.ra q.rn q.rc] 45)) wr.heap.size #[.int .u64 q.num, .int .i64 q.node, .int .u64 q.last, .int .u64 q.first, .int .i64 q.count, .bool q.ready, .slice q.ra q.rn q.rc] 45) := Blk.new _ _ _
      go_upto_region 25 with fail
      clear e0 e1 e2 e3 e4 e5 e6 HH HY HB HS y
      generalize (wr.alloc (.cells #[.int .u64 q.num, .int .i64 q.node, .int .u64 q.last, .int .u64 q.first, .int .i64 q.count, .bool q.ready, .slice q.ra q.rn q.rc] 45)) = y0 at *
      obtain ⟨b, hbb⟩ : ∃ b, wr.heap.size = b := ⟨_, rfl⟩
      rw [hbb] at HQ ⊢
      clear hbb
      have HS := HS'
      have HB := HB'
      have HY := HY'
      clear HS' HB' HY'
      obtain ⟨hp1, hp2⟩ := open_parts HOK.out
      obtain ⟨hq1, hq2, hq3⟩ := HQW
      have hwx := wrap_small hp1.2.2.1 (by omega)
      have u0 : y0.cell? ⟨b, 0, none⟩ = some (.int .u64 q.num) := HQ.out.cell 0
      have u1 : y0.cell? ⟨b, 1, none⟩ = some (.int .i64 q.node) := HQ.out.cell 1
      go_wp2_with fail
      refine (tidP _ _ q.num q.node y0 HS.out hq1.1 hq1.2 (by have := HTOT.out; unfold openB at this; simp only [List.length_append] at this ⊢; omega)).mono ?_
      rintro e y2 ⟨v2, rfl, hs, y⟩
      have HS' : Hid (Src y2 v2 ([8] ++ tidB num node ++ PK ++ (tidB q.num q.node))) := by show Src _ _ _; simpa only [List.append_assoc] using hs
      have HB' : Hid (Blk y2 w.heap.size #[.int .i64 8, .int .u64 num, .int .i64 node, .string key, .bool was, .string old, .int .u64 prev, .slice na nn nc, .slice ra rn rc, .slice ga gn gc, .slice (some ad) om oc, .slice da dn dc] 31) := Blk.of HB.out (y.block _ HB.out.lt)
      have HY' : Hid (Below w.heap.size w y2) := ext_trans HY.out y
      have HQ' : Hid (Blk y2 b #[.int .u64 q.num, .int .i64 q.node, .int .u64 q.last, .int .u64 q.first, .int .i64 q.count, .bool q.ready, .slice q.ra q.rn q.rc] 45) := Blk.of HQ.out (y.block _ HQ.out.lt)
      clear hs y HS HB HY HQ u0 u1
      have HS := HS'
      have HB := HB'
      have HY := HY'
      have HQ := HQ'
      clear HS' HB' HY' HQ'
      have u2 : y2.cell? ⟨b, 2, none⟩ = some (.int .u64 q.last) := HQ.out.cell 2
      go_wp2_with fail
      refine (putP _ _ q.last y2 HS.out hq2.1 hq2.2 (by have := HTOT.out; unfold openB at this; simp only [List.length_append] at this ⊢; omega)).mono ?_
      rintro e y3 ⟨v3, rfl, hs, y⟩
      have HS' : Hid (Src y3 v3 ([8] ++ tidB num node ++ PK ++ (tidB q.num q.node ++ (intB q.last)))) := by show Src _ _ _; simpa only [List.append_assoc] using hs
      have HB' : Hid (Blk y3 w.heap.size #[.int .i64 8, .int .u64 num, .int .i64 node, .string key, .bool was, .string old, .int .u64 prev, .slice na nn nc, .slice ra rn rc, .slice ga gn gc, .slice (some ad) om oc, .slice da dn dc] 31) := Blk.of HB.out (y.block _ HB.out.lt)
      have HY' : Hid (Below w.heap.size w y3) := ext_trans HY.out y
      have HQ' : Hid (Blk y3 b #[.int .u64 q.num, .int .i64 q.node, .int .u64 q.last, .int .u64 q.first, .int .i64 q.count, .bool q.ready, .slice q.ra q.rn q.rc] 45) := Blk.of HQ.out (y.block _ HQ.out.lt)
      clear hs y HS HB HY HQ u2
      have HS := HS'
      have HB := HB'
      have HY := HY'
      have HQ := HQ'
      clear HS' HB' HY' HQ'
      have u3 : y3.cell? ⟨b, 3, none⟩ = some (.int .u64 q.first) := HQ.out.cell 3
      go_wp2_with fail
      refine (putP _ _ q.first y3 HS.out hq3.1 hq3.2 (by have := HTOT.out; unfold openB at this; simp only [List.length_append] at this ⊢; omega)).mono ?_
      rintro e y4 ⟨v4, rfl, hs, y⟩
      have HS' : Hid (Src y4 v4 ([8] ++ tidB num node ++ PK ++ (tidB q.num q.node ++ (intB q.last ++ (intB q.first))))) := by show Src _ _ _; simpa only [List.append_assoc] using hs
      have HB' : Hid (Blk y4 w.heap.size #[.int .i64 8, .int .u64 num, .int .i64 node, .string key, .bool was, .string old, .int .u64 prev, .slice na nn nc, .slice ra rn rc, .slice ga gn gc, .slice (some ad) om oc, .slice da dn dc] 31) := Blk.of HB.out (y.block _ HB.out.lt)
      have HY' : Hid (Below w.heap.size w y4) := ext_trans HY.out y
      have HQ' : Hid (Blk y4 b #[.int .u64 q.num, .int .i64 q.node, .int .u64 q.last, .int .u64 q.first, .int .i64 q.count, .bool q.ready, .slice q.ra q.rn q.rc] 45) := Blk.of HQ.out (y.block _ HQ.out.lt)
      clear hs y HS HB HY HQ u3
      have HS := HS'
      have HB := HB'
      have HY := HY'
      have HQ := HQ'
      clear HS' HB' HY' HQ'
      have u4 : y4.cell? ⟨b, 4, none⟩ = some (.int .i64 q.count) := HQ.out.cell 4
      go_wp2_with fail
      refine (putP _ _ q.count y4 HS.out hp1.2.2.1 (by omega) (by have := HTOT.out; unfold openB at this; simp only [List.length_append] at this ⊢; omega)).mono ?_
      rintro e y5 ⟨v5, rfl, hs, y⟩
      have HS' : Hid (Src y5 v5 ([8] ++ tidB num node ++ PK ++ (tidB q.num q.node ++ (intB q.last ++ (intB q.first ++ (intB q.count)))))) := by show Src _ _ _; simpa only [List.append_assoc] using hs
      have HB' : Hid (Blk y5 w.heap.size #[.int .i64 8, .int .u64 num, .int .i64 node, .string key, .bool was, .string old, .int .u64 prev, .slice na nn nc, .slice ra rn rc, .slice ga gn gc, .slice (some ad) om oc, .slice da dn dc] 31) := Blk.of HB.out (y.block _ HB.out.lt)
      have HY' : Hid (Below w.heap.size w y5) := ext_trans HY.out y
      have HQ' : Hid (Blk y5 b #[.int .u64 q.num, .int .i64 q.node, .int .u64 q.last, .int .u64 q.first, .int .i64 q.count, .bool q.ready, .slice q.ra q.rn q.rc] 45) := Blk.of HQ.out (y.block _ HQ.out.lt)
      clear hs y HS HB HY HQ u4
      have HS := HS'
      have HB := HB'
      have HY := HY'
      have HQ := HQ'
      clear HS' HB' HY' HQ'
      have u5 : y5.cell? ⟨b, 5, none⟩ = some (.bool q.ready) := HQ.out.cell 5
      go_wp2_with fail
      refine (flag11_any q.ready y5).mono ?_
      rintro e wf ⟨rfl, hwf⟩
      subst hwf
      clear u5
      have hfl : flagN q.ready < 18446744073709551616 := by unfold flagN; split <;> omega
      go_wp2_with fail
      refine (num_put _ _ (flagN q.ready) wf HS.out hfl (by have := HTOT.out; unfold openB at this; simp only [List.length_append] at this ⊢; omega)).mono ?_
      rintro e y7 ⟨v7, rfl, hs, y⟩
      have HS' : Hid (Src y7 v7 ([8] ++ tidB num node ++ PK ++ (tidB q.num q.node ++ (intB q.last ++ (intB q.first ++ (intB q.count ++ (enc (flagN q.ready)))))))) := by show Src _ _ _; simpa only [List.append_assoc] using hs
      have HB' : Hid (Blk y7 w.heap.size #[.int .i64 8, .int .u64 num, .int .i64 node, .string key, .bool was, .string old, .int .u64 prev, .slice na nn nc, .slice ra rn rc, .slice ga gn gc, .slice (some ad) om oc, .slice da dn dc] 31) := Blk.of HB.out (y.block _ HB.out.lt)
      have HY' : Hid (Below w.heap.size w y7) := ext_trans HY.out y
      have HQ' : Hid (Blk y7 b #[.int .u64 q.num, .int .i64 q.node, .int .u64 q.last, .int .u64 q.first, .int .i64 q.count, .bool q.ready, .slice q.ra q.rn q.rc] 45) := Blk.of HQ.out (y.block _ HQ.out.lt)
      clear hs y HS HB HY HQ
      have HS := HS'
      have HB := HB'
      have HY := HY'
      have HQ := HQ'
      clear HS' HB' HY' HQ'
      have u6 : y7.cell? ⟨b, 6, none⟩ = some (.slice q.ra q.rn q.rc) := HQ.out.cell 6
      go_wp2_with fail
      refine (texts11_any _ _ _ q.rs y7 HS.out (HQA.out.below HY.out).rd (by have := HTOT.out; unfold openB at this; simp only [List.length_append] at this ⊢; omega) (by have := (reads_bounds hp2).1; omega)).mono ?_
      rintro e y8 ⟨v8, rfl, hs, y⟩
      have HS' : Hid (Src y8 v8 ([8] ++ tidB num node ++ PK ++ (tidB q.num q.node ++ (intB q.last ++ (intB q.first ++ (intB q.count ++ (enc (flagN q.ready) ++ (allB8 textB q.rs)))))))) := by show Src _ _ _; simpa only [List.append_assoc] using hs
      have HB' : Hid (Blk y8 w.heap.size #[.int .i64 8, .int .u64 num, .int .i64 node, .string key, .bool was, .string old, .int .u64 prev, .slice na nn nc, .slice ra rn rc, .slice ga gn gc, .slice (some ad) om oc, .slice da dn dc] 31) := Blk.of HB.out (y.block _ HB.out.lt)
      have HY' : Hid (Below w.heap.size w y8) := ext_trans HY.out y
      have HQ' : Hid (Blk y8 b #[.int .u64 q.num, .int .i64 q.node, .int .u64 q.last, .int .u64 q.first, .int .i64 q.count, .bool q.ready, .slice q.ra q.rn q.rc] 45) := Blk.of HQ.out (y.block _ HQ.out.lt)
      clear hs y HS HB HY HQ u6
      have HS := HS'
      have HB := HB'
      have HY := HY'
      have HQ := HQ'
      clear HS' HB' HY' HQ'
      clear hp1 hp2 hq1 hq2 hq3 hwx hfl
      go_wp2
      go_roundw
      case rel => exact ⟨k + 1, by go_num, hlt, by rw [HST.out]; simpa only [List.append_assoc, openB] using HS.out, HY.out, HB.out⟩
      case measure => simp [intOf]; omega
    · have hkn : k = os.length := by rw [← HO.out.len.1]; omega
      have HE : Hid (partB openB os k = allB8 openB os) := by show _ = _; rw [hkn]; unfold partB allB8; rw [List.take_length]
      obtain ⟨vn2, hvn2⟩ : ∃ y, y = ([8] ++ tidB num node ++ partB openB os k).length := ⟨_, rfl⟩
      rw [← hvn2] at HS ⊢
      rw [HE.out] at HS
      clear hkn hk hvn2 HE
      rename World => wz
      clear HWF
      have HWF := HDW
      have z11 : wz.cell? ⟨w.heap.size, 11, none⟩ = some (.slice da dn dc) := HB.out.cell 11
      go_wp2_with fail
      refine (num_put _ _ dn wz HS.out (by omega) (by have := HLEN.out; simp only [List.length_append] at this ⊢; omega)).mono ?_
      rintro e y9 ⟨v9, rfl, hs, y⟩
      have HS' : Hid (Src y9 v9 ([8] ++ tidB num node ++ allB8 openB os ++ enc dn)) := by show Src _ _ _; simpa only [List.append_assoc] using hs
      have HB' : Hid (Blk y9 w.heap.size #[.int .i64 8, .int .u64 num, .int .i64 node, .string key, .bool was, .string old, .int .u64 prev, .slice na nn nc, .slice ra rn rc, .slice ga gn gc, .slice oa om oc, .slice da dn dc] 31) := Blk.of HB.out (y.block _ HB.out.lt)
      have HY' : Hid (Below w.heap.size w y9) := ext_trans HY.out y
      clear hs y HS HB HY z11
      have HS := HS'
      have HB := HB'
      have HY := HY'
      clear HS' HB' HY'
      have HS0 : Hid (Src y9 v9 ([8] ++ tidB num node ++ allB8 openB os ++ partB doneB ds 0)) := by show Src _ _ _; unfold partB; rw [List.take_zero, List.map_nil, List.flatten_nil, List.append_nil, ← HD.out.len.1]; exact HS.out
      have z11 : y9.cell? ⟨w.heap.size, 11, none⟩ = some (.slice da dn dc) := HB.out.cell 11
      go_wp2
      clear z11
      go_loopw [3, 137] (fun v i wr => ∃ k : Nat, i = .int .i64 (k : Int) ∧ k ≤ dn ∧ Src wr v ([8] ++ tidB num node ++ allB8 openB os ++ partB doneB ds k) ∧ Below w.heap.size w wr ∧ Blk wr w.heap.size #[.int .i64 8, .int .u64 num, .int .i64 node, .string key, .bool was, .string old, .int .u64 prev, .slice na nn nc, .slice ra rn rc, .slice ga gn gc, .slice oa om oc, .slice da dn dc] 31) (fun _ i _ => dn - (intOf i).toNat)
      case atStart => exact ⟨0, rfl, Nat.zero_le _, HS0.out, HY.out, HB.out⟩
      case round =>
        obtain ⟨k, rfl, hk, hs, y, hb⟩ := hrel
        clear HY HB HS HS0
        have HY : Hid (Below w.heap.size w wr) := y
        have HB : Hid (Blk wr w.heap.size #[.int .i64 8, .int .u64 num, .int .i64 node, .string key, .bool was, .string old, .int .u64 prev, .slice na nn nc, .slice ra rn rc, .slice ga gn gc, .slice oa om oc, .slice da dn dc] 31) := hb
        have HS : Hid (Src wr _ ([8] ++ tidB num node ++ allB8 openB os ++ partB doneB ds k)) := hs
        clear y hb hs
        obtain ⟨vo, vc, hvk⟩ := HS.out.form
        subst hvk
        by_cases hlt : k < dn
        · have hkl : k < ds.length := by rw [← HD.out.len.1]; exact hlt
          have hi2 : (k : Int) < (dn : Int) := by omega
          obtain ⟨ad, had⟩ := RowsN.adr HD.out (by omega)
          subst had
          have HH : Hid (RowsN wr 3 _ (.slice (some ad) _ _) ds) := HD.out.below HY.out
          have e0 : wr.cell? (ad.add (k * 3)) = some _ := HH.out.at0 hkl rfl
          have e1 : wr.cell? ⟨(ad.add (k * 3)).block, (ad.add (k * 3)).off + 1, none⟩ = some _ := HH.out.atS hkl 0 rfl
          have e2 : wr.cell? ⟨(ad.add (k * 3)).block, (ad.add (k * 3)).off + 2, none⟩ = some _ := HH.out.atS hkl 1 rfl
          have HST : Hid (partB doneB ds (k + 1) = partB doneB ds k ++ doneB ds[k]) := all_take doneB hkl
          have HTOT : Hid (([8] ++ tidB num node ++ allB8 openB os ++ (partB doneB ds k ++ doneB ds[k])).length < 100000000) := by
            have h1 := all_le doneB ds (k + 1)
            have h2 := HLEN.out
            rw [HST.out] at h1
            show _ < _
            simp only [List.length_append] at h1 h2 ⊢
            omega
          have HQA : Hid (ds[k].At w) := HDA.out _ (List.getElem_mem hkl)
          have HOK : Hid (_ = true) := HDO.out _ (List.getElem_mem hkl)
          have HQW := HWF.out ds[k] (List.getElem_mem hkl)
          generalize ds[k] = q at *
          obtain ⟨PK, hPK⟩ : ∃ l, l = partB doneB ds k := ⟨_, rfl⟩
          rw [← hPK] at HS HTOT HST ⊢
          clear hPK
          obtain ⟨vn, hvn⟩ : ∃ y, y = ([8] ++ tidB num node ++ allB8 openB os ++ PK).length := ⟨_, rfl⟩
          rw [← hvn] at HS ⊢
          clear hvn
          have y : Below wr.heap.size wr (wr.alloc (.cells #[.int .u64 q.num, .int .i64 q.node, .slice q.na q.nn q.nc] 51)) := below_allocR _
          have HY' : Hid (Below w.heap.size w (wr.alloc (.cells #[.int .u64 q.num, .int .i64 q.node, .slice q.na q.nn q.nc] 51))) := HY.out.alloc HY.out.size _
          have HB' : Hid (Blk (wr.alloc (.cells #[.int .u64 q.num, .int .i64 q.node, .slice q.na q.nn q.nc] 51)) w.heap.size #[.int .i64 8, .int .u64 num, .int .i64 node, .string key, .bool was, .string old, .int .u64 prev, .slice na nn nc, .slice ra rn rc, .slice ga gn gc, .slice oa om oc, .slice (some ad) dn dc] 31) := HB.out.alloc _
          have HS' : Hid (Src (wr.alloc (.cells #[.int .u64 q.num, .int .i64 q.node, .slice q.na q.nn q.nc] 51)) _ ([8] ++ tidB num node ++ allB8 openB os ++ PK)) := HS.out.below y
          have HQ : Hid (Blk (wr.alloc (.cells #[.int .u64 q.num, .int .i64 q.node, .slice q.na q.nn q.nc] 51)) wr.heap.size #[.int .u64 q.num, .int .i64 q.node, .slice q.na q.nn q.nc] 51) := Blk.new _ _ _
          go_upto_region 36 with fail
          clear e0 e1 e2 HH HY HB HS y
          generalize (wr.alloc (.cells #[.int .u64 q.num, .int .i64 q.node, .slice q.na q.nn q.nc] 51)) = y0 at *
          obtain ⟨b, hbb⟩ : ∃ b, wr.heap.size = b := ⟨_, rfl⟩
          rw [hbb] at HQ ⊢
          clear hbb
          have HS := HS'
          have HB := HB'
          have HY := HY'
          clear HS' HB' HY'
          have u0 : y0.cell? ⟨b, 0, none⟩ = some (.int .u64 q.num) := HQ.out.cell 0
          have u1 : y0.cell? ⟨b, 1, none⟩ = some (.int .i64 q.node) := HQ.out.cell 1
          go_wp2_with fail
          refine (tidP _ _ q.num q.node y0 HS.out HQW.1 HQW.2 (by have := HTOT.out; unfold doneB at this; simp only [List.length_append] at this ⊢; omega)).mono ?_
          rintro e y10 ⟨v10, rfl, hs, y⟩
          have HS' : Hid (Src y10 v10 ([8] ++ tidB num node ++ allB8 openB os ++ PK ++ (tidB q.num q.node))) := by show Src _ _ _; simpa only [List.append_assoc] using hs
          have HB' : Hid (Blk y10 w.heap.size #[.int .i64 8, .int .u64 num, .int .i64 node, .string key, .bool was, .string old, .int .u64 prev, .slice na nn nc, .slice ra rn rc, .slice ga gn gc, .slice oa om oc, .slice (some ad) dn dc] 31) := Blk.of HB.out (y.block _ HB.out.lt)
          have HY' : Hid (Below w.heap.size w y10) := ext_trans HY.out y
          have HQ' : Hid (Blk y10 b #[.int .u64 q.num, .int .i64 q.node, .slice q.na q.nn q.nc] 51) := Blk.of HQ.out (y.block _ HQ.out.lt)
          clear hs y HS HB HY HQ u0 u1
          have HS := HS'
          have HB := HB'
          have HY := HY'
          have HQ := HQ'
          clear HS' HB' HY' HQ'
          have u2 : y10.cell? ⟨b, 2, none⟩ = some (.slice q.na q.nn q.nc) := HQ.out.cell 2
          go_wp2_with fail
          refine (list11_any _ _ _ q.ns y10 HS.out (HQA.out.below HY.out).rd (by have := HTOT.out; unfold doneB at this; simp only [List.length_append] at this ⊢; omega) (by have := (nodes_bounds (done_parts HOK.out)).1; omega) (nodes_bounds (done_parts HOK.out)).2).mono ?_
          rintro e y11 ⟨v11, rfl, hs, y⟩
          have HS' : Hid (Src y11 v11 ([8] ++ tidB num node ++ allB8 openB os ++ PK ++ (tidB q.num q.node ++ allB8 intB q.ns))) := by show Src _ _ _; simpa only [List.append_assoc] using hs
          have HB' : Hid (Blk y11 w.heap.size #[.int .i64 8, .int .u64 num, .int .i64 node, .string key, .bool was, .string old, .int .u64 prev, .slice na nn nc, .slice ra rn rc, .slice ga gn gc, .slice oa om oc, .slice (some ad) dn dc] 31) := Blk.of HB.out (y.block _ HB.out.lt)
          have HY' : Hid (Below w.heap.size w y11) := ext_trans HY.out y
          have HQ' : Hid (Blk y11 b #[.int .u64 q.num, .int .i64 q.node, .slice q.na q.nn q.nc] 51) := Blk.of HQ.out (y.block _ HQ.out.lt)
          clear hs y HS HB HY HQ u2
          have HS := HS'
          have HB := HB'
          have HY := HY'
          have HQ := HQ'
          clear HS' HB' HY' HQ'
          go_wp2
          go_roundw
          case rel => exact ⟨k + 1, by go_num, hlt, by rw [HST.out]; simpa only [List.append_assoc, doneB] using HS.out, HY.out, HB.out⟩
          case measure => simp [intOf]; omega
        · have hkn : k = ds.length := by rw [← HD.out.len.1]; omega
          have HE : Hid (partB doneB ds k = allB8 doneB ds) := by show _ = _; rw [hkn]; unfold partB allB8; rw [List.take_length]
          obtain ⟨vn2, hvn2⟩ : ∃ y, y = ([8] ++ tidB num node ++ allB8 openB os ++ partB doneB ds k).length := ⟨_, rfl⟩
          rw [← hvn2] at HS ⊢
          rw [HE.out] at HS
          clear hkn hk hvn2 HE
          rename World => wy
          go_wp2
          go_ret
          refine ⟨_, rfl, ?_, HY.out⟩
          show Src _ (.slice vo vn2 vc) _
          have HSF := HS.out
          simp only [List.append_assoc, List.cons_append, List.nil_append] at HSF ⊢
          exact HSF
end Go.Proofs.YthkmohcdgnldgaaGreat

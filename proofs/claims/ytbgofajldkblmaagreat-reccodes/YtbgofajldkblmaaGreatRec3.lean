/- rec: which records are right. Own lemmas, no statement. -/
import Derived.Test.YtbgofajldkblmaaGreatRec2
import Derived.Test.YtbgofajldkblmaaGreatPg5
set_option linter.unusedSimpArgs false
set_option linter.unusedVariables false
namespace Go.Proofs.YtbgofajldkblmaaGreat
open Go.ChangeShapes Go.WideShapes Go.ChangeAt Go.RowKit

def elderT (x y x' y' : Int) : Bool := decide (x < x' ∨ x = x' ∧ y < y')
set_option maxHeartbeats 400000 in
theorem elderT_any (x y x' y' : Int) (w : World) :
    Calls Tryz.prog 26 #[.agg #[.int .u64 x, .int .i64 y], .agg #[.int .u64 x', .int .i64 y']] w fun e w' => e = .returned (.bool (elderT x y x' y')) ∧ Below w.heap.size w w' := by
  rcases (show x < x' ∨ (x = x' ∧ y < y') ∨ (x = x' ∧ ¬ y < y') ∨ (¬ x < x' ∧ ¬ x = x') by omega) with h | ⟨h, h'⟩ | ⟨h, h'⟩ | ⟨h, h'⟩
  · have he : elderT x y x' y' = true := by simp [elderT, h]
    rw [he]
    clear he
    go_enter Tryz.func26, Tryz.ntmps26
    go_wp2
    go_ret
    exact ⟨rfl, ((Below.refl _ _).alloc (Nat.le_refl _) _).alloc (by simp) _⟩
  · subst h
    have he : elderT x y x y' = true := by simp [elderT, h']
    rw [he]
    clear he
    go_enter Tryz.func26, Tryz.ntmps26
    go_wp2
    go_ret
    exact ⟨rfl, ((Below.refl _ _).alloc (Nat.le_refl _) _).alloc (by simp) _⟩
  · subst h
    have he : elderT x y x y' = false := decide_eq_false (by omega)
    rw [he]
    clear he
    go_enter Tryz.func26, Tryz.ntmps26
    go_wp2
    go_ret
    exact ⟨rfl, ((Below.refl _ _).alloc (Nat.le_refl _) _).alloc (by simp) _⟩
  · have he : elderT x y x' y' = false := decide_eq_false (by omega)
    rw [he]
    clear he
    go_enter Tryz.func26, Tryz.ntmps26
    go_wp2
    go_ret
    exact ⟨rfl, ((Below.refl _ _).alloc (Nat.le_refl _) _).alloc (by simp) _⟩
def openOk (x : OpenV) : Bool := tidOk x.num x.node && decide (x.last ≤ 4611686018427387904) && decide (x.first ≤ 4611686018427387904) && decide (0 ≤ x.count) && decide (x.count ≤ 1073741824) && readsOk x.rs
def openLt (x y : OpenV) : Bool := elderT x.num x.node y.num y.node
def doneOk (x : DoneV) : Bool := tidOk x.num x.node && nodesOk x.ns
def doneLt (x y : DoneV) : Bool := elderT x.num x.node y.num y.node
def chgOk (x : ChgV) : Bool := decide (0 ≤ x.n) && decide (x.n < 65536) && rightPg x.p
def chgLt (x y : ChgV) : Bool := ltI x.n y.n
/-- Their own rows may be read. -/
structure OpenV.At (W : World) (x : OpenV) : Prop where
  rd : Rd W (.slice x.ra x.rn x.rc) (sv x.rs)
  sz : ∀ s ∈ x.rs, s.size ≤ maxLen
structure DoneV.At (W : World) (x : DoneV) : Prop where
  rd : Rd W (.slice x.na x.nn x.nc) (iv x.ns)
structure ChgV.At (W : World) (x : ChgV) : Prop where
  rd : PgAt W x.p (.slice x.ka x.kn x.kc) (.slice x.va x.vn x.vc) (.slice x.da x.dn x.dc)
  ok : x.p.Ok
theorem OpenV.At.below {W W' : World} {x : OpenV} (h : x.At W) (hb : Below W.heap.size W W') : x.At W' := ⟨h.rd.below hb, h.sz⟩
theorem DoneV.At.below {W W' : World} {x : DoneV} (h : x.At W) (hb : Below W.heap.size W W') : x.At W' := ⟨h.rd.below hb⟩
theorem ChgV.At.below {W W' : World} {x : ChgV} (h : x.At W) (hb : Below W.heap.size W W') : x.At W' := ⟨h.rd.below hb, h.ok⟩

set_option maxHeartbeats 1000000 in
theorem openAhead_any (x y : OpenV) (w : World) : Calls Tryz.prog 65 #[.agg #[.int .u64 x.num, .int .i64 x.node, .int .u64 x.last, .int .u64 x.first, .int .i64 x.count, .bool x.ready, .slice x.ra x.rn x.rc], .agg #[.int .u64 y.num, .int .i64 y.node, .int .u64 y.last, .int .u64 y.first, .int .i64 y.count, .bool y.ready, .slice y.ra y.rn y.rc]] w fun e w' => e = .returned (.bool (openLt x y)) ∧ Below w.heap.size w w' := by
  have HB : Hid (∀ o o', Below w.heap.size w ((w.alloc o).alloc o')) := fun o o' => ((Below.refl _ _).alloc (Nat.le_refl _) _).alloc (by simp) _
  unfold openLt
  go_enter Tryz.func65, Tryz.ntmps65
  go_wp2_with fail
  refine (elderT_any _ _ _ _ _).mono ?_
  rintro e w' ⟨rfl, y⟩
  have HY : Hid (Below w.heap.size w w') := ext_trans (HB.out _ _) y
  clear y
  go_wp2
  go_ret
  exact ⟨ret_bool rfl, HY.out⟩

set_option maxHeartbeats 1000000 in
theorem doneAhead_any (x y : DoneV) (w : World) : Calls Tryz.prog 68 #[.agg #[.int .u64 x.num, .int .i64 x.node, .slice x.na x.nn x.nc], .agg #[.int .u64 y.num, .int .i64 y.node, .slice y.na y.nn y.nc]] w fun e w' => e = .returned (.bool (doneLt x y)) ∧ Below w.heap.size w w' := by
  have HB : Hid (∀ o o', Below w.heap.size w ((w.alloc o).alloc o')) := fun o o' => ((Below.refl _ _).alloc (Nat.le_refl _) _).alloc (by simp) _
  unfold doneLt
  go_enter Tryz.func68, Tryz.ntmps68
  go_wp2_with fail
  refine (elderT_any _ _ _ _ _).mono ?_
  rintro e w' ⟨rfl, y⟩
  have HY : Hid (Below w.heap.size w w') := ext_trans (HB.out _ _) y
  clear y
  go_wp2
  go_ret
  exact ⟨ret_bool rfl, HY.out⟩

set_option maxHeartbeats 1000000 in
theorem chgLower_any (x y : ChgV) (w : World) : Calls Tryz.prog 60 #[.agg #[.int .i64 x.n, .int .i64 x.p.kind, .slice x.ka x.kn x.kc, .slice x.va x.vn x.vc, .slice x.da x.dn x.dc, .int .i64 x.p.root, .int .i64 x.p.next, .int .i64 x.p.size, .int .i64 x.p.idle], .agg #[.int .i64 y.n, .int .i64 y.p.kind, .slice y.ka y.kn y.kc, .slice y.va y.vn y.vc, .slice y.da y.dn y.dc, .int .i64 y.p.root, .int .i64 y.p.next, .int .i64 y.p.size, .int .i64 y.p.idle]] w fun e w' => e = .returned (.bool (chgLt x y)) ∧ Below w.heap.size w w' := by
  have HB : Hid (∀ o o', Below w.heap.size w ((w.alloc o).alloc o')) := fun o o' => ((Below.refl _ _).alloc (Nat.le_refl _) _).alloc (by simp) _
  unfold chgLt ltI
  go_enter Tryz.func60, Tryz.ntmps60
  go_wp2
  go_ret
  exact ⟨ret_bool rfl, HB.out _ _⟩
set_option maxHeartbeats 2000000 in
theorem doneRight_any (x : DoneV) (w : World) (h : x.At w) : Calls Tryz.prog 67 #[.agg #[.int .u64 x.num, .int .i64 x.node, .slice x.na x.nn x.nc]] w fun e w' => e = .returned (.bool (doneOk x)) ∧ Below w.heap.size w w' := by
  have HX : Hid (x.At w) := h
  have HB : Hid (Blk (w.alloc (.cells #[.int .u64 x.num, .int .i64 x.node, .slice x.na x.nn x.nc] 51)) w.heap.size #[.int .u64 x.num, .int .i64 x.node, .slice x.na x.nn x.nc] 51) := Blk.new _ _ _
  have HY : Hid (Below w.heap.size w (w.alloc (.cells #[.int .u64 x.num, .int .i64 x.node, .slice x.na x.nn x.nc] 51))) := (Below.refl _ _).alloc (Nat.le_refl _) _
  clear h
  unfold doneOk
  go_enter Tryz.func67, Tryz.ntmps67
  go_wp2_with fail
  refine (isTid_any _ _ _).mono ?_
  rintro e w1 ⟨rfl, y⟩
  have HB1 := Blk.of HB.out (y.block _ HB.out.lt)
  have HY1 : Hid (Below w.heap.size w w1) := ext_trans HY.out y
  clear y HB HY
  have z2 := HB1.cell 2
  clear HB1
  cases hx : tidOk x.num x.node with
  | false =>
    have HT : Hid (tidOk x.num x.node = false) := hx
    clear hx
    go_wp2
    go_ret
    exact ⟨ret_bool (by rw [HT.out]; rfl), HY1.out⟩
  | true =>
    have HT : Hid (tidOk x.num x.node = true) := hx
    clear hx
    go_wp2_with fail
    refine (rightNodes_any _ x.ns _ (HX.out.rd.below HY1.out)).mono ?_
    rintro e w2 ⟨rfl, hw⟩
    subst hw
    go_wp2
    go_ret
    exact ⟨ret_bool (by rw [HT.out]; rfl), HY1.out⟩

set_option maxHeartbeats 2000000 in
theorem openRight_any (x : OpenV) (w : World) (h : x.At w) : Calls Tryz.prog 64 #[.agg #[.int .u64 x.num, .int .i64 x.node, .int .u64 x.last, .int .u64 x.first, .int .i64 x.count, .bool x.ready, .slice x.ra x.rn x.rc]] w fun e w' => e = .returned (.bool (openOk x)) ∧ Below w.heap.size w w' := by
  have HX : Hid (x.At w) := h
  have HB : Hid (Blk (w.alloc (.cells #[.int .u64 x.num, .int .i64 x.node, .int .u64 x.last, .int .u64 x.first, .int .i64 x.count, .bool x.ready, .slice x.ra x.rn x.rc] 45)) w.heap.size #[.int .u64 x.num, .int .i64 x.node, .int .u64 x.last, .int .u64 x.first, .int .i64 x.count, .bool x.ready, .slice x.ra x.rn x.rc] 45) := Blk.new _ _ _
  have HY : Hid (Below w.heap.size w (w.alloc (.cells #[.int .u64 x.num, .int .i64 x.node, .int .u64 x.last, .int .u64 x.first, .int .i64 x.count, .bool x.ready, .slice x.ra x.rn x.rc] 45))) := (Below.refl _ _).alloc (Nat.le_refl _) _
  clear h
  unfold openOk
  go_enter Tryz.func64, Tryz.ntmps64
  go_wp2_with fail
  refine (isTid_any _ _ _).mono ?_
  rintro e w1 ⟨rfl, y⟩
  have HB1 : Hid (Blk w1 w.heap.size #[.int .u64 x.num, .int .i64 x.node, .int .u64 x.last, .int .u64 x.first, .int .i64 x.count, .bool x.ready, .slice x.ra x.rn x.rc] 45) := Blk.of HB.out (y.block _ HB.out.lt)
  have HY1 : Hid (Below w.heap.size w w1) := ext_trans HY.out y
  clear y HB HY
  have z2 := HB1.out.cell 2
  have z3 := HB1.out.cell 3
  have z4 := HB1.out.cell 4
  have z6 := HB1.out.cell 6
  cases hx : tidOk x.num x.node with
  | false =>
    have HT : Hid (tidOk x.num x.node = false) := hx
    clear hx
    go_wp2
    go_ret
    exact ⟨ret_bool (by rw [HT.out]; rfl), HY1.out⟩
  | true =>
    have HT : Hid (tidOk x.num x.node = true) := hx
    clear hx
    by_cases h1 : x.last ≤ 4611686018427387904
    · by_cases h2 : x.first ≤ 4611686018427387904
      · by_cases h3 : 0 ≤ x.count
        · by_cases h4 : x.count ≤ 1073741824
          · have H4 : Hid (x.last ≤ 4611686018427387904 ∧ x.first ≤ 4611686018427387904 ∧ 0 ≤ x.count ∧ x.count ≤ 1073741824) := ⟨h1, h2, h3, h4⟩
            go_wp2_with fail
            refine (rightReads_any _ x.rs _ (HX.out.rd.below HY1.out) HX.out.sz).mono ?_
            rintro e w2 ⟨rfl, hw⟩
            subst hw
            go_wp2
            go_ret
            exact ⟨ret_bool (by rw [HT.out, decide_eq_true H4.out.1, decide_eq_true H4.out.2.1, decide_eq_true H4.out.2.2.1, decide_eq_true H4.out.2.2.2]; rfl), HY1.out⟩
          · have H4 : Hid (¬ x.count ≤ 1073741824) := h4
            go_wp2
            go_ret
            exact ⟨ret_bool (by rw [decide_eq_false (p := x.count ≤ 1073741824) (by have := H4.out; omega)]; simp), HY1.out⟩
        · have H4 : Hid (¬ 0 ≤ x.count) := h3
          go_wp2
          go_ret
          exact ⟨ret_bool (by rw [decide_eq_false (p := 0 ≤ x.count) (by have := H4.out; omega)]; simp), HY1.out⟩
      · have H4 : Hid (¬ x.first ≤ 4611686018427387904) := h2
        go_wp2
        go_ret
        exact ⟨ret_bool (by rw [decide_eq_false (p := x.first ≤ 4611686018427387904) (by have := H4.out; omega)]; simp), HY1.out⟩
    · have H4 : Hid (¬ x.last ≤ 4611686018427387904) := h1
      go_wp2
      go_ret
      exact ⟨ret_bool (by rw [decide_eq_false (p := x.last ≤ 4611686018427387904) (by have := H4.out; omega)]; simp), HY1.out⟩

set_option maxHeartbeats 2000000 in
theorem chgRight_any (x : ChgV) (w : World) (h : x.At w) : Calls Tryz.prog 59 #[.agg #[.int .i64 x.n, .int .i64 x.p.kind, .slice x.ka x.kn x.kc, .slice x.va x.vn x.vc, .slice x.da x.dn x.dc, .int .i64 x.p.root, .int .i64 x.p.next, .int .i64 x.p.size, .int .i64 x.p.idle]] w fun e w' => e = .returned (.bool (chgOk x)) ∧ Below w.heap.size w w' := by
  have HX : Hid (x.At w) := h
  have HB : Hid (Blk (w.alloc (.cells #[.int .i64 x.n, .int .i64 x.p.kind, .slice x.ka x.kn x.kc, .slice x.va x.vn x.vc, .slice x.da x.dn x.dc, .int .i64 x.p.root, .int .i64 x.p.next, .int .i64 x.p.size, .int .i64 x.p.idle] 49)) w.heap.size #[.int .i64 x.n, .int .i64 x.p.kind, .slice x.ka x.kn x.kc, .slice x.va x.vn x.vc, .slice x.da x.dn x.dc, .int .i64 x.p.root, .int .i64 x.p.next, .int .i64 x.p.size, .int .i64 x.p.idle] 49) := Blk.new _ _ _
  have HY : Hid (Below w.heap.size w (w.alloc (.cells #[.int .i64 x.n, .int .i64 x.p.kind, .slice x.ka x.kn x.kc, .slice x.va x.vn x.vc, .slice x.da x.dn x.dc, .int .i64 x.p.root, .int .i64 x.p.next, .int .i64 x.p.size, .int .i64 x.p.idle] 49))) := (Below.refl _ _).alloc (Nat.le_refl _) _
  have HPR : Hid (∀ W, Below w.heap.size w W → Calls Tryz.prog 25 #[pgv x.p (.slice x.ka x.kn x.kc) (.slice x.va x.vn x.vc) (.slice x.da x.dn x.dc)] W fun e w' => e = .returned (.bool (rightPg x.p)) ∧ Below W.heap.size W w') := fun W hb => right_any x.p _ _ _ W (HX.out.rd.below hb) HX.out.ok
  clear h
  unfold pgv at HPR
  unfold chgOk
  by_cases h1 : 0 ≤ x.n
  · by_cases h2 : x.n < 65536
    · have H4 : Hid (0 ≤ x.n ∧ x.n < 65536) := ⟨h1, h2⟩
      go_enter Tryz.func59, Tryz.ntmps59
      go_wp2_with fail
      refine (HPR.out _ HY.out).mono ?_
      rintro e w1 ⟨rfl, y⟩
      have HY1 : Hid (Below w.heap.size w w1) := ext_trans HY.out y
      clear y
      go_wp2
      go_ret
      exact ⟨ret_bool (by rw [decide_eq_true H4.out.1, decide_eq_true H4.out.2]; rfl), HY1.out⟩
    · have H4 : Hid (¬ x.n < 65536) := h2
      go_enter Tryz.func59, Tryz.ntmps59
      go_wp2
      go_ret
      exact ⟨ret_bool (by rw [decide_eq_false (p := x.n < 65536) (by have := H4.out; omega)]; simp), HY.out⟩
  · have H4 : Hid (¬ 0 ≤ x.n) := h1
    go_enter Tryz.func59, Tryz.ntmps59
    go_wp2
    go_ret
    exact ⟨ret_bool (by rw [decide_eq_false (p := 0 ≤ x.n) (by have := H4.out; omega)]; simp), HY.out⟩
end Go.Proofs.YtbgofajldkblmaaGreat

/- net: Twice, Spoil, walked; those of a nil net. Own lemmas, no statement. -/
import Derived.Test.YtcemecclpofhbaaNet5
set_option linter.unusedSimpArgs false
set_option linter.unusedVariables false
namespace Go.Proofs.Ytcemecclpofhbaa
open Go.ChangeShapes Go.WideShapes Go.ChangeAt Go.RowKit

/-- What Twice hands back. -/
def TwiceP (B p : Nat) (v : Value) (ls : List LetV) (at_ : Int) (w : World) (e : Ending) (w' : World) : Prop :=
  (inB at_ ls.length = false ∧ e = .returned (.int .i64 4) ∧ Below w.heap.size w w') ∨
  (∃ (x : LetV) (i : Nat), at_ = (i : Int) ∧ ls[i]? = some x ∧ ((2000 ≤ ls.length ∧ e = .returned (.int .i64 3) ∧ Below w.heap.size w w') ∨ (ls.length < 2000 ∧ e = .returned (.int .i64 0) ∧ ∃ v' y, y.dst = x.dst ∧ y.bs = x.bs ∧ NetI w' B p v' (ls ++ [y]) ∧ Chg (fun i => i = p ∨ v.ownBlock = some i) w w' ∧ ∀ i, FP p v' (ls ++ [y]) i → FP p v ls i ∨ w.heap.size ≤ i)))
set_option maxRecDepth 100000 in
set_option maxHeartbeats 4000000 in
theorem twice_any (B p : Nat) (v : Value) (ls : List LetV) (at_ : Int) (w : World) (h : NetI w B p v ls) :
    Calls Try.prog 11 #[.pointer (some ⟨p, 0, none⟩), .int .i64 at_] w (TwiceP B p v ls at_ w) := by
  have HN : Hid (NetI w B p v ls) := h
  have HX : Hid (Calls _ _ _ _ _) := at_any B p v ls at_ w h
  clear h
  go_enter Try.func11, Try.ntmps11
  go_wp2_with fail
  refine HX.out.mono ?_
  rintro e w1 ⟨hh, y⟩
  have HY1 : Hid (Below w.heap.size w w1) := y
  clear HX y
  rcases hh with ⟨hin, rfl⟩ | ⟨x, i, a', c', hi, hx, rfl, ho⟩
  · have HIN : Hid (inB at_ ls.length = false) := hin
    clear hin
    have HY2 : Hid (Below w.heap.size w (w1.alloc (.cells #[.int .i64 0, .slice none 0 0] 34))) := HY1.out.alloc HY1.out.size _
    go_wp2
    go_ret
    exact .inl ⟨HIN.out, rfl, HY2.out⟩
  · subst hi
    have HXI : Hid (ls[i]? = some x) := hx
    have hxm : x ∈ ls := List.mem_of_getElem? hx
    have HXE : Hid (x.bs.length ≤ 200 ∧ 0 ≤ x.dst ∧ x.dst < 64) := (HN.out.el x hxm).2
    clear hx hxm
    obtain ⟨bl, hbl⟩ : ∃ bl, bl = x.bs.length := ⟨_, rfl⟩
    have HBL : Hid (bl = x.bs.length) := hbl
    rw [← hbl] at ho ⊢
    clear hbl
    obtain ⟨w2, hw2⟩ : ∃ w2, w2 = w1.alloc (.cells #[.int .i64 x.dst, .slice a' bl c'] 34) := ⟨_, rfl⟩
    have HO2 : Hid (Own w2 w.heap.size (.slice a' bl c') x.bs) := by rw [hw2]; exact ho.alloc _
    have HY2 : Hid (Below w.heap.size w w2) := by rw [hw2]; exact HY1.out.alloc HY1.out.size _
    have HT2 : Hid (Blk w2 w1.heap.size #[.int .i64 x.dst, .slice a' bl c'] 34) := by rw [hw2]; exact Blk.new _ _ _
    clear ho
    go_upto_region 4 with fail
    rw [← hw2]
    clear hw2
    generalize w1.heap.size = q at *
    have t0 : w2.cell? ⟨q, 0, none⟩ = some (.int .i64 x.dst) := HT2.out.cell 0
    have t1 : w2.cell? ⟨q, 1, none⟩ = some (.slice a' bl c') := HT2.out.cell 1
    have HX : Hid (Calls _ _ _ _ _) := send_any B p v ls x.dst a' bl c' x.bs w2 (HN.out.below HY2.out) HO2.out.src (by have := HXE.out.1; omega)
    go_wp2_with fail
    refine HX.out.mono ?_
    rintro e w3 hs
    clear HX t0 t1
    have hno : ¬ (x.dst < 0 ∨ 64 ≤ x.dst ∨ 200 < x.bs.length) := by have := HXE.out; omega
    rcases hs with ⟨hb, _⟩ | ⟨_, hl, rfl, hw⟩ | ⟨_, hl, rfl, v', yy, hd, hbs, hNI, hCH, hFP⟩
    · exact absurd hb hno
    · rw [hw]
      have HL : Hid (2000 ≤ ls.length) := hl
      clear hl hw hno
      go_wp2
      go_ret
      exact .inr ⟨x, i, rfl, HXI.out, .inl ⟨HL.out, rfl, HY2.out⟩⟩
    · have HRES : Hid (ls.length < 2000 ∧ ∃ v' y, y.dst = x.dst ∧ y.bs = x.bs ∧ NetI w3 B p v' (ls ++ [y]) ∧ Chg (fun i => i = p ∨ v.ownBlock = some i) w w3 ∧ ∀ i, FP p v' (ls ++ [y]) i → FP p v ls i ∨ w.heap.size ≤ i) := ⟨hl, v', yy, hd, hbs, hNI, Chg.trans (Chg.of_below HY2.out (fun j hj hb => by omega)) hCH (fun _ _ e => e), fun j hj => by
        rcases hFP j hj with e | e
        · exact .inl e
        · exact .inr (Nat.le_trans HY2.out.size e)⟩
      clear hl hd hbs hNI hCH hFP hno
      go_wp2
      go_ret
      exact .inr ⟨x, i, rfl, HXI.out, .inr ⟨HRES.out.1, rfl, HRES.out.2⟩⟩
set_option maxHeartbeats 1000000 in
theorem spoil_nil (at_ i : Int) (bt : Int) (w : World) : Calls Try.prog 12 #[.pointer none, .int .i64 at_, .int .i64 i, .int .u8 bt] w fun e w' => e = .returned (.int .i64 4) ∧ w' = w := by
  go_enter Try.func12, Try.ntmps12
  go_wp2_with fail
  refine (has_nil at_ w).mono ?_
  rintro e w1 ⟨rfl, hw⟩
  rw [hw]
  clear hw w1
  go_wp2
  go_ret
  exact ⟨rfl, rfl⟩
set_option maxHeartbeats 1000000 in
theorem twice_nil (at_ : Int) (w : World) : Calls Try.prog 11 #[.pointer none, .int .i64 at_] w fun e w' => e = .returned (.int .i64 4) ∧ Below w.heap.size w w' := by
  go_enter Try.func11, Try.ntmps11
  go_wp2_with fail
  refine (at_nil at_ w).mono ?_
  rintro e w1 ⟨rfl, y⟩
  have HY2 : Hid (Below w.heap.size w (w1.alloc (.cells #[.int .i64 0, .slice none 0 0] 34))) := y.alloc y.size _
  clear y
  go_wp2
  go_ret
  exact ⟨rfl, HY2.out⟩
set_option maxHeartbeats 1000000 in
theorem take_nil (at_ : Int) (w : World) : Calls Try.prog 10 #[.pointer none, .int .i64 at_] w fun e w' => e = .returned (.tuple #[.agg #[.int .i64 0, .slice none 0 0], .bool false]) ∧ Below w.heap.size w w' := by
  obtain ⟨w0, hw0⟩ : ∃ w0, w0 = w.alloc (.cells #[.int .i64 0, .slice none 0 0] 34) := ⟨_, rfl⟩
  have HE : Hid (Below w.heap.size w w0) := by rw [hw0]; exact below_allocR _
  have HR : Hid (Blk w0 w.heap.size #[.int .i64 0, .slice none 0 0] 34) := by rw [hw0]; exact Blk.new _ _ _
  go_enter Try.func10, Try.ntmps10
  go_upto_region 1 with fail
  rw [← hw0]
  clear hw0
  go_wp2_with fail
  refine (at_nil at_ w0).mono ?_
  rintro e w1 ⟨rfl, y⟩
  have HY1 : Hid (Below w.heap.size w w1) := ext_trans HE.out y
  have HR1 : Hid (Blk w1 w.heap.size #[.int .i64 0, .slice none 0 0] 34) := HR.out.of (y.block _ HR.out.lt)
  clear y
  obtain ⟨w2, hw2⟩ : ∃ w2, w2 = w1.alloc (.cells #[.int .i64 0, .slice none 0 0] 34) := ⟨_, rfl⟩
  have HY2 : Hid (Below w.heap.size w w2) := by rw [hw2]; exact HY1.out.alloc HY1.out.size _
  have HR2 : Hid (Blk w2 w.heap.size #[.int .i64 0, .slice none 0 0] 34) := by rw [hw2]; exact HR1.out.alloc _
  have HT2 : Hid (Blk w2 w1.heap.size #[.int .i64 0, .slice none 0 0] 34) := by rw [hw2]; exact Blk.new _ _ _
  go_upto_region 4 with fail
  rw [← hw2]
  clear hw2
  generalize w1.heap.size = q at *
  have t0 : w2.cell? ⟨q, 0, none⟩ = some (.int .i64 0) := HT2.out.cell 0
  have t1 : w2.cell? ⟨q, 1, none⟩ = some (.slice none 0 0) := HT2.out.cell 1
  have y0 : w2.cell? ⟨w.heap.size, 0, none⟩ = some (.int .i64 0) := HR2.out.cell 0
  have y1 : w2.cell? ⟨w.heap.size, 1, none⟩ = some (.slice none 0 0) := HR2.out.cell 1
  have f0 := HR2.out.frozen 0
  have f1 := HR2.out.frozen 1
  have HR3 : Hid (Blk ((w2.setCell ⟨w.heap.size, 0, none⟩ (.int .i64 0)).setCell ⟨w.heap.size, 1, none⟩ (.slice none 0 0)) w.heap.size #[.int .i64 0, .slice none 0 0] 34) := by
    show Blk _ _ _ _
    have := (HR2.out.set 0 (.int .i64 0)).set 1 (.slice none 0 0)
    simpa using this
  have HY3 : Hid (Below w.heap.size w ((w2.setCell ⟨w.heap.size, 0, none⟩ (.int .i64 0)).setCell ⟨w.heap.size, 1, none⟩ (.slice none 0 0))) := (HY2.out.setCell (Nat.le_refl _) _).setCell (Nat.le_refl _) _
  go_wp2
  generalize (w2.setCell ⟨w.heap.size, 0, none⟩ (.int .i64 0)).setCell ⟨w.heap.size, 1, none⟩ (.slice none 0 0) = w3 at *
  have z0 : w3.cell? ⟨w.heap.size, 0, none⟩ = some (.int .i64 0) := HR3.out.cell 0
  have z1 : w3.cell? ⟨w.heap.size, 1, none⟩ = some (.slice none 0 0) := HR3.out.cell 1
  exact bodyPost_ret (v := .tuple #[.agg #[.int .i64 0, .slice none 0 0], .bool false]) (by simp [results, Try.results10, go_sem, z0, z1]) rfl ⟨rfl, HY3.out⟩
end Go.Proofs.Ytcemecclpofhbaa

/- net: At, walked. Own lemmas, no statement. -/
import Derived.Test.YtcemecclpofhbaaNet2
set_option linter.unusedSimpArgs false
set_option linter.unusedVariables false
namespace Go.Proofs.Ytcemecclpofhbaa
open Go.ChangeShapes Go.WideShapes Go.ChangeAt Go.RowKit

/-- What At hands back. -/
def AtP (ls : List LetV) (at_ : Int) (w : World) (e : Ending) (w' : World) : Prop :=
  ((inB at_ ls.length = false ∧ e = .returned (.tuple #[.agg #[.int .i64 0, .slice none 0 0], .bool false])) ∨
  (∃ (x : LetV) (i : Nat) (a' : Option Addr) (c' : Nat), at_ = (i : Int) ∧ ls[i]? = some x ∧ e = .returned (.tuple #[.agg #[.int .i64 x.dst, .slice a' x.bs.length c'], .bool true]) ∧ Own w' w.heap.size (.slice a' x.bs.length c') x.bs)) ∧ Below w.heap.size w w'
set_option maxRecDepth 100000 in
set_option maxHeartbeats 4000000 in
theorem at_any (B p : Nat) (v : Value) (ls : List LetV) (at_ : Int) (w : World) (h : NetI w B p v ls) :
    Calls Try.prog 9 #[.pointer (some ⟨p, 0, none⟩), .int .i64 at_] w (AtP ls at_ w) := by
  have HN : Hid (NetI w B p v ls) := h
  obtain ⟨w0, hw0⟩ : ∃ w0, w0 = w.alloc (.cells #[.int .i64 0, .slice none 0 0] 34) := ⟨_, rfl⟩
  have HE : Hid (Below w.heap.size w w0) := by rw [hw0]; exact below_allocR _
  have HR : Hid (Blk w0 w.heap.size #[.int .i64 0, .slice none 0 0] 34) := by rw [hw0]; exact Blk.new _ _ _
  have HS0 : Hid (w0.heap.size = w.heap.size + 1) := by show _ = _; rw [hw0]; simp
  have HPW : Hid (p < w.heap.size) := h.blk.lt
  have HX : Hid (Calls _ _ _ _ _) := has_any B p v ls at_ w0 (h.below HE.out)
  clear h
  go_enter Try.func9, Try.ntmps9
  go_upto_region 1 with fail
  rw [← hw0]
  clear hw0
  go_wp2_with fail
  refine HX.out.mono ?_
  rintro e w1 ⟨rfl, hw⟩
  rw [hw]
  clear HX hw w1
  obtain ⟨b, hb⟩ : ∃ b, inB at_ ls.length = b := ⟨_, rfl⟩
  rw [hb]
  have HB : Hid (inB at_ ls.length = b) := hb
  clear hb
  cases b with
  | false =>
    have y0 : w0.cell? ⟨w.heap.size, 0, none⟩ = some (.int .i64 0) := HR.out.cell 0
    have y1 : w0.cell? ⟨w.heap.size, 1, none⟩ = some (.slice none 0 0) := HR.out.cell 1
    have f0 := HR.out.frozen 0
    have f1 := HR.out.frozen 1
    have hr : Blk ((w0.setCell ⟨w.heap.size, 0, none⟩ (.int .i64 0)).setCell ⟨w.heap.size, 1, none⟩ (.slice none 0 0)) w.heap.size #[.int .i64 0, .slice none 0 0] 34 := by
      have := (HR.out.set 0 (.int .i64 0)).set 1 (.slice none 0 0)
      simpa using this
    have HY : Hid (Below w.heap.size w ((w0.setCell ⟨w.heap.size, 0, none⟩ (.int .i64 0)).setCell ⟨w.heap.size, 1, none⟩ (.slice none 0 0))) := (HE.out.setCell (Nat.le_refl _) _).setCell (Nat.le_refl _) _
    have HR2 : Hid (Blk _ w.heap.size _ _) := hr
    clear hr
    go_wp2
    generalize (w0.setCell ⟨w.heap.size, 0, none⟩ (.int .i64 0)).setCell ⟨w.heap.size, 1, none⟩ (.slice none 0 0) = w2 at *
    have z0 : w2.cell? ⟨w.heap.size, 0, none⟩ = some (.int .i64 0) := HR2.out.cell 0
    have z1 : w2.cell? ⟨w.heap.size, 1, none⟩ = some (.slice none 0 0) := HR2.out.cell 1
    exact bodyPost_ret (v := .tuple #[.agg #[.int .i64 0, .slice none 0 0], .bool false]) (by simp [results, Try.results9, go_sem, z0, z1]) rfl ⟨.inl ⟨HB.out, rfl⟩, HY.out⟩
  | true =>
    have hbb := of_decide_eq_true HB.out
    obtain ⟨i, hi⟩ : ∃ i : Nat, at_ = (i : Int) := ⟨at_.toNat, by omega⟩
    subst hi
    have hil : i < ls.length := by omega
    obtain ⟨a, k, hv, hlk, hkm, hnn, hga⟩ := HN.out.form
    obtain ⟨ad, had⟩ : ∃ ad, a = some ad := by
      cases a with
      | none => have := hnn rfl; rw [this] at hil; simp at hil
      | some ad => exact ⟨ad, rfl⟩
    obtain ⟨g, hg⟩ := hga ad had
    subst had
    subst hg
    subst hv
    have HN0 : Hid (NetI w0 B p _ ls) := HN.out.below HE.out
    have c0 : w0.cell? ⟨p, 0, none⟩ = some (.slice (some ⟨g, 0, none⟩) ls.length k) := HN0.out.blk.cell 0
    obtain ⟨k0, k1⟩ := HN0.out.cell hil
    obtain ⟨x, hx⟩ : ∃ x, x = ls[i] := ⟨_, rfl⟩
    rw [← hx] at k0 k1
    have HXI : Hid (ls[i]? = some x) := by show _ = _; rw [List.getElem?_eq_getElem hil, hx]
    have HXO : Hid (Own w0 B x.v x.bs ∧ x.bs.length ≤ 200) := by
      have := HN0.out.el x (by rw [hx]; exact List.getElem_mem _)
      exact ⟨this.1, this.2.1⟩
    have HIL : Hid (i < ls.length) := hil
    clear hx hbb hnn
    generalize ls.length = n at *
    unfold maxLen at hkm
    have hi0 : (i : Int) < (n : Int) := by omega
    obtain ⟨w2, hw2⟩ : ∃ w2, w2 = w0.alloc (.cells #[.int .i64 x.dst, .slice x.a x.n x.c] 34) := ⟨_, rfl⟩
    have HB2 : Hid (Blk w2 w0.heap.size #[.int .i64 x.dst, .slice x.a x.n x.c] 34) := by rw [hw2]; exact Blk.new _ _ _
    have HE2 : Hid (Below w0.heap.size w0 w2) := by rw [hw2]; exact below_allocR _
    go_upto_region 4 with fail
    rw [← hw2]
    clear hw2 c0 k0 k1
    have HXS : Hid (Src w2 (.slice x.a x.n x.c) x.bs) := (HXO.out.1.below HE2.out).src
    have HR2 : Hid (Blk w2 w.heap.size #[.int .i64 0, .slice none 0 0] 34) := HR.out.of (HE2.out.block _ HR.out.lt)
    have HNE : Hid (w.heap.size ≠ w0.heap.size) := by have := HS0.out; show _ ≠ _; omega
    have HY2 : Hid (Below w.heap.size w w2) := ext_trans HE.out HE2.out
    generalize w0.heap.size = q at *
    have hbk : Blk w2.drew q #[.int .i64 x.dst, .slice x.a x.n x.c] 34 := HB2.out
    refine wp_region_seg (fun W => Blk W q #[.int .i64 x.dst, .slice x.a x.n x.c] 34) (by kernel_rfl) ?_
    haveI nA : Nonempty (Cls fun W => Blk W q #[.int .i64 x.dst, .slice x.a x.n x.c] 34) := ⟨⟨w2.drew, hbk⟩⟩
    have q0 : ∀ s : Cls (fun W => Blk W q #[.int .i64 x.dst, .slice x.a x.n x.c] 34), s.wd.cell? ⟨q, 0, none⟩ = some (.int .i64 x.dst) := fun s => s.ok.cell 0
    have q1 : ∀ s : Cls (fun W => Blk W q #[.int .i64 x.dst, .slice x.a x.n x.c] 34), s.wd.cell? ⟨q, 1, none⟩ = some (.slice x.a x.n x.c) := fun s => s.ok.cell 1
    refine wpAnyH_seg (by kernel_rfl) (fun _ _ _ h => h) [0, 1, 2, 3] 4 _ _ _ hbk (by kernel_rfl) ?_
    simp only [opsAt, List.getElem?_toArray, List.getElem?_cons_zero, List.getElem?_cons_succ, List.cons_append, List.nil_append]
    repeat (go_big_quiet_step (fail))
    refine wpQuiet_nil ?_
    have HX : Hid (Calls _ _ _ _ _) := clone_any x.a x.n x.c x.bs w2.drew (HXS.out.below (Below.drew (Below.refl _ _))) (by have := HXO.out.2; omega)
    refine wpAnyH_callS (i := 4) (fuel := 3) 23 rfl (by kernel_rfl) rfl (by kernel_rfl) (f := 14) (args := #[.slice x.a x.n x.c]) (by kernel_rfl) HX.out ?_
    rintro e w3 ⟨a', c', rfl, ho, y⟩
    have hbk3 : Blk w3 q #[.int .i64 x.dst, .slice x.a x.n x.c] 34 := hbk.of (y.block _ hbk.lt)
    refine ⟨_, rfl, hbk3, ?_⟩
    have HO : Hid (Own w3 w2.heap.size (.slice a' x.bs.length c') x.bs) := ho
    have HR3 : Hid (Blk w3 w.heap.size #[.int .i64 0, .slice none 0 0] 34) := HR2.out.of (y.block _ HR2.out.lt)
    have HY3 : Hid (Below w.heap.size w w3) := ext_trans HY2.out.drew y
    have HRW : Hid (w.heap.size < w2.heap.size) := HR2.out.lt
    clear ho y HX hbk
    obtain ⟨bl, hbl⟩ : ∃ bl, bl = x.bs.length := ⟨_, rfl⟩
    have HBL : Hid (bl = x.bs.length) := hbl
    rw [← hbl] at HO ⊢
    clear hbl
    simp only [Act.put, List.setIfInBounds_toArray, List.set_cons_succ, List.set_cons_zero]
    refine wpAnyH_seg (by kernel_rfl) (fun _ _ _ h => h) [5] 2 _ _ _ hbk3 (by kernel_rfl) ?_
    simp only [opsAt, List.getElem?_toArray, List.getElem?_cons_zero, List.getElem?_cons_succ, List.cons_append, List.nil_append]
    repeat (go_big_quiet_step (fail))
    refine wpQuiet_nil ?_
    clear nA q0 q1
    refine wpAnyH_all (rs := [6]) (fuel := 1) (by kernel_rfl) (by simp) fun j hj => ?_
    obtain rfl : j = 6 := by simpa using hj
    clear hj
    refine wpOp_storeN rfl (by kernel_rfl) 34 _ _ rfl rfl w.heap.size 0 #[.int .i64 x.dst, .slice a' bl c'] rfl rfl (thereN 2 HR3.out (by simp)) (by kernel_rfl) (by simp [Value.oneCell']) ?_
    have hst : w3.setCells w.heap.size 0 [.int .i64 x.dst, .slice a' bl c'] = (w3.setCell ⟨w.heap.size, 0, none⟩ (.int .i64 x.dst)).setCell ⟨w.heap.size, 1, none⟩ (.slice a' bl c') := rfl
    simp only [List.toList_toArray]
    rw [hst]
    clear hst
    have hbk4 : Blk ((w3.setCell ⟨w.heap.size, 0, none⟩ (.int .i64 x.dst)).setCell ⟨w.heap.size, 1, none⟩ (.slice a' bl c')) q #[.int .i64 x.dst, .slice x.a x.n x.c] 34 := (hbk3.setOther 0 _ (Ne.symm HNE.out)).setOther 1 _ (Ne.symm HNE.out)
    refine ⟨hbk4, ?_⟩
    have HR4 : Hid (Blk ((w3.setCell ⟨w.heap.size, 0, none⟩ (.int .i64 x.dst)).setCell ⟨w.heap.size, 1, none⟩ (.slice a' bl c')) w.heap.size #[.int .i64 x.dst, .slice a' bl c'] 34) := by
      show Blk _ _ _ _
      have := (HR3.out.set 0 (.int .i64 x.dst)).set 1 (.slice a' bl c')
      simpa using this
    have HY4 : Hid (Below w.heap.size w ((w3.setCell ⟨w.heap.size, 0, none⟩ (.int .i64 x.dst)).setCell ⟨w.heap.size, 1, none⟩ (.slice a' bl c'))) := (HY3.out.setCell (Nat.le_refl _) _).setCell (Nat.le_refl _) _
    have HO4 : Hid (Own ((w3.setCell ⟨w.heap.size, 0, none⟩ (.int .i64 x.dst)).setCell ⟨w.heap.size, 1, none⟩ (.slice a' bl c')) w.heap.size (.slice a' bl c') x.bs) := by
      have h1 := owns_kept (W' := (w3.setCell ⟨w.heap.size, 0, none⟩ (.int .i64 x.dst)).setCell ⟨w.heap.size, 1, none⟩ (.slice a' bl c')) HO.out (fun g e => by
        have hlt := World.ownsRow.lt HO.out g e
        have := HRW.out
        rw [Below.heap_setCell _ _ _ _ (by show g ≠ w.heap.size; omega), Below.heap_setCell _ _ _ _ (by show g ≠ w.heap.size; omega)])
      exact Own.mono h1 (by have := HRW.out; omega)
    clear HR3 HY3 HO hbk3
    generalize (w3.setCell ⟨w.heap.size, 0, none⟩ (.int .i64 x.dst)).setCell ⟨w.heap.size, 1, none⟩ (.slice a' bl c') = w4 at *
    haveI nA : Nonempty (Cls fun W => Blk W q #[.int .i64 x.dst, .slice x.a x.n x.c] 34) := ⟨⟨w4, hbk4⟩⟩
    refine wpAnyH_seg (by kernel_rfl) (fun _ _ _ h => h) [7] 0 _ _ _ hbk4 (by kernel_rfl) ?_
    simp only [opsAt, List.getElem?_toArray, List.getElem?_cons_zero, List.getElem?_cons_succ, List.cons_append, List.nil_append]
    repeat (go_big_quiet_step (fail))
    refine wpQuiet_nil ?_
    clear nA
    refine wpAnyH_done (by kernel_rfl) (NoPanic.normal ?_) 0
    have z0 : w4.cell? ⟨w.heap.size, 0, none⟩ = some (.int .i64 x.dst) := HR4.out.cell 0
    have z1 : w4.cell? ⟨w.heap.size, 1, none⟩ = some (.slice a' bl c') := HR4.out.cell 1
    go_wp2
    exact bodyPost_ret (v := .tuple #[.agg #[.int .i64 x.dst, .slice a' bl c'], .bool true]) (by simp [results, Try.results9, go_sem, z0, z1]) rfl ⟨.inr ⟨x, i, a', c', rfl, HXI.out, by rw [HBL.out], by rw [← HBL.out]; exact HO4.out⟩, HY4.out⟩
end Go.Proofs.Ytcemecclpofhbaa
